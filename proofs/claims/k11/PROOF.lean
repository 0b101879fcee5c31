import PyProof.Rows.All
import Wide.All
import OpenK.AllK
import Wide.FinOn
import HandS.ForMost
import HandS.Exc
import HandS.ExcInit
import HandS.IsInst
import HandS.Wide
import HandS.WideBits
import HandS.Defaults
import HandS.ExcField
import HandS.Walk
import PySem.Challenge.RW_barredrows_k11_signs_and_errors
import KE.KExcIs
import KE.KExcInit
import HandS.ExcValue
import HandS.WordsExc
import HandS.TryOnly
import KE.LtData
import KE.GoesNew
import HandS.Replace
import HandS.DeepEq
import HandS.Style
import PyProof.Rows.StrBin
import PyProof.StrLawsRepr
import HandS.HeadHook2
import HandS.Head0
import HandS.Head1
import HandS.Head2
import KE.KStateDown
import Lean
import HandS.HeadEnd
set_option Elab.async false
set_option linter.all false
set_option maxRecDepth 100000
section
set_option maxHeartbeats 4000000
namespace K11
open PySem PySem.Spec PyProof.Rows L2
/-! ### the text by places -/
def topS (i : Nat) : Stmt := PySem.Challenge.pw_barredrows_k11_signs_and_errors.main.body.getD i (.Pass ⟨0, 0, 0, 0⟩)
abbrev sIsInteger : Stmt := topS 52
abbrev sIsCount : Stmt := topS 53
abbrev sIsRow : Stmt := topS 54
abbrev sIsAhead : Stmt := topS 55
abbrev sPot : Stmt := topS 57
abbrev sDraw : Stmt := topS 58
abbrev sPick : Stmt := topS 59
abbrev sOdd : Stmt := topS 60
abbrev sWord : Stmt := topS 61
abbrev sIsWhole : Stmt := topS 62
abbrev sIsWord : Stmt := topS 63
abbrev sAhead : Stmt := topS 64
abbrev sLooksRight : Stmt := topS 65
abbrev sTold : Stmt := topS 66
abbrev sOrderRight : Stmt := topS 67
abbrev sValuesRight : Stmt := topS 68
abbrev sPlacesRight : Stmt := topS 69
abbrev sFamiliesRight : Stmt := topS 70
abbrev sRight : Stmt := topS 71
abbrev sLaw : Stmt := topS 72
/-! ### heaps -/
/-- all stands that stood, but perhaps p -/
def But (p : Addr) (H H' : Hp) : Prop := ∀ b o, b ≠ p → H b = some o → H' b = some o
theorem But.rfl {p : Addr} {H : Hp} : But p H H := fun _ _ _ e => e
theorem But.trans {p : Addr} {H1 H2 H3 : Hp} (a : But p H1 H2) (b : But p H2 H3) : But p H1 H3 := fun x o n e => b x o n (a x o n e)
theorem But.upd {p : Addr} {H : Hp} {o : HO} : But p H (upd H p o) := fun b u n e => by rw [upd_ne n]; exact e
theorem But.new {p q : Addr} {H : Hp} {o : HO} (h : H q = none) : But p H (L2.upd H q o) := fun b u n e => by rw [upd_ne (ne_of_none e h)]; exact e
theorem Same.new {q : Addr} {H : Hp} {o : HO} (h : H q = none) : Same H (L2.upd H q o) := fun b u e => by rw [upd_ne (ne_of_none e h)]; exact e
theorem But.same {p : Addr} {H H' : Hp} (h : Same H H') : But p H H' := fun b o _ e => h b o e
/-- the pot that is drawn from -/
def PotAt (H : Hp) (p : Addr) : Prop := ∃ x y : Int, H p = some (.lst [.int x, .int y]) ∧ 0 ≤ x ∧ 0 ≤ y ∧ y < 2147483648
theorem PotAt.same {H H' : Hp} {p : Addr} (h : PotAt H p) (s : Same H H') : PotAt H' p := by
  obtain ⟨x, y, e, h1, h2, h3⟩ := h
  exact ⟨x, y, s _ _ e, h1, h2, h3⟩
/-! ### what the top has written -/
structure Tx (K : PySem.W.Frag) (mg : Str → Option Value) (ad : Str → Addr) (fd : Str → FuncData) : Prop where
  m_isinstance : mg "isinstance" = none
  m_int : mg "int" = none
  m_bool : mg "bool" = none
  m_str : mg "str" = none
  m_all : mg "all" = none
  m_any : mg "any" = none
  m_len : mg "len" = none
  m_abs : mg "abs" = none
  m_max : mg "max" = none
  m_min : mg "min" = none
  m_divmod : mg "divmod" = none
  m_range : mg "range" = none
  m_repr : mg "repr" = none
  m_zip : mg "zip" = none
  m_ValueError : mg "ValueError" = none
  m_LookupError : mg "LookupError" = none
  m_RuntimeError : mg "RuntimeError" = none
  m_ArithmeticError : mg "ArithmeticError" = none
  m_KeyError : mg "KeyError" = none
  m_IndexError : mg "IndexError" = none
  m_OverflowError : mg "OverflowError" = none
  m_NotImplementedError : mg "NotImplementedError" = none
  sys : ∃ o, K.lookup sysModules = some o ∧ o.cls ≠ .type "list"
  g_ALL_SIGNS : ∃ t, mg "ALL_SIGNS" = some (.str "abcd" t)
  F_is_integer : Fun K "is_integer" "is_integer" sIsInteger (ad "is_integer") (fd "is_integer")
  g_is_integer : mg "is_integer" = some (.ref (ad "is_integer"))
  b_is_integer : Binds K (fd "is_integer") ["value"] []
  F_is_count : Fun K "is_count" "is_count" sIsCount (ad "is_count") (fd "is_count")
  g_is_count : mg "is_count" = some (.ref (ad "is_count"))
  b_is_count : Binds K (fd "is_count") ["value"] []
  F_is_row : Fun K "is_row" "is_row" sIsRow (ad "is_row") (fd "is_row")
  g_is_row : mg "is_row" = some (.ref (ad "is_row"))
  b_is_row : Binds K (fd "is_row") ["value"] []
  F_is_ahead : Fun K "is_ahead" "is_ahead" sIsAhead (ad "is_ahead") (fd "is_ahead")
  g_is_ahead : mg "is_ahead" = some (.ref (ad "is_ahead"))
  b_is_ahead : Binds K (fd "is_ahead") ["one", "other"] []
  F__law_pot : Fun K "_law_pot" "_law_pot" sPot (ad "_law_pot") (fd "_law_pot")
  g__law_pot : mg "_law_pot" = some (.ref (ad "_law_pot"))
  b__law_pot : Binds K (fd "_law_pot") ["_law_script", "_law_k"] []
  F__law_draw : Fun K "_law_draw" "_law_draw" sDraw (ad "_law_draw") (fd "_law_draw")
  g__law_draw : mg "_law_draw" = some (.ref (ad "_law_draw"))
  b__law_draw : Binds K (fd "_law_draw") ["_law_pot_here", "_law_size"] []
  F__law_pick : Fun K "_law_pick" "_law_pick" sPick (ad "_law_pick") (fd "_law_pick")
  g__law_pick : mg "_law_pick" = some (.ref (ad "_law_pick"))
  b__law_pick : Binds K (fd "_law_pick") ["_law_pot_here", "_law_some"] []
  F__law_odd : Fun K "_law_odd" "_law_odd" sOdd (ad "_law_odd") (fd "_law_odd")
  g__law_odd : mg "_law_odd" = some (.ref (ad "_law_odd"))
  b__law_odd : Binds K (fd "_law_odd") ["_law_pot_here"] []
  F__law_word : Fun K "_law_word" "_law_word" sWord (ad "_law_word") (fd "_law_word")
  g__law_word : mg "_law_word" = some (.ref (ad "_law_word"))
  b__law_word : Binds K (fd "_law_word") ["_law_pot_here"] []
  F__law_is_whole : Fun K "_law_is_whole" "_law_is_whole" sIsWhole (ad "_law_is_whole") (fd "_law_is_whole")
  g__law_is_whole : mg "_law_is_whole" = some (.ref (ad "_law_is_whole"))
  b__law_is_whole : Binds K (fd "_law_is_whole") ["_law_thing"] []
  F__law_is_word : Fun K "_law_is_word" "_law_is_word" sIsWord (ad "_law_is_word") (fd "_law_is_word")
  g__law_is_word : mg "_law_is_word" = some (.ref (ad "_law_is_word"))
  b__law_is_word : Binds K (fd "_law_is_word") ["_law_thing"] []
  F__law_ahead : Fun K "_law_ahead" "_law_ahead" sAhead (ad "_law_ahead") (fd "_law_ahead")
  g__law_ahead : mg "_law_ahead" = some (.ref (ad "_law_ahead"))
  b__law_ahead : Binds K (fd "_law_ahead") ["_law_near", "_law_far"] []
  F__law_looks_right : Fun K "_law_looks_right" "_law_looks_right" sLooksRight (ad "_law_looks_right") (fd "_law_looks_right")
  g__law_looks_right : mg "_law_looks_right" = some (.ref (ad "_law_looks_right"))
  b__law_looks_right : Binds K (fd "_law_looks_right") ["_law_thing"] []
  F__law_told : Fun K "_law_told" "_law_told" sTold (ad "_law_told") (fd "_law_told")
  g__law_told : mg "_law_told" = some (.ref (ad "_law_told"))
  b__law_told : Binds K (fd "_law_told") ["_law_near", "_law_far"] []
  F__law_order_right : Fun K "_law_order_right" "_law_order_right" sOrderRight (ad "_law_order_right") (fd "_law_order_right")
  g__law_order_right : mg "_law_order_right" = some (.ref (ad "_law_order_right"))
  b__law_order_right : Binds K (fd "_law_order_right") ["_law_near", "_law_far"] []
  F__law_values_right : Fun K "_law_values_right" "_law_values_right" sValuesRight (ad "_law_values_right") (fd "_law_values_right")
  g__law_values_right : mg "_law_values_right" = some (.ref (ad "_law_values_right"))
  b__law_values_right : Binds K (fd "_law_values_right") ["_law_thing"] []
  F__law_places_right : Fun K "_law_places_right" "_law_places_right" sPlacesRight (ad "_law_places_right") (fd "_law_places_right")
  g__law_places_right : mg "_law_places_right" = some (.ref (ad "_law_places_right"))
  b__law_places_right : Binds K (fd "_law_places_right") ["_law_thing"] []
  F__law_families_right : Fun K "_law_families_right" "_law_families_right" sFamiliesRight (ad "_law_families_right") (fd "_law_families_right")
  g__law_families_right : mg "_law_families_right" = some (.ref (ad "_law_families_right"))
  b__law_families_right : Binds K (fd "_law_families_right") ["_law_thing"] []
  F__law_right : Fun K "_law_right" "_law_right" sRight (ad "_law_right") (fd "_law_right")
  g__law_right : mg "_law_right" = some (.ref (ad "_law_right"))
  b__law_right : Binds K (fd "_law_right") ["_law_pot_here"] []
  F_law : Fun K "law" "law" sLaw (ad "law") (fd "law")
  g_law : mg "law" = some (.ref (ad "law"))
  b_law : Binds K (fd "law") ["_law_script"] []
/-! ### promises -/
def spDraw : Sp := fun vs H Q _ => ∃ (p : Addr) (n : Int), vs = [.ref p, .int n] ∧ PotAt H p ∧ 1 ≤ n ∧ n.natAbs.log2 < 9000 ∧
  ∀ (d : Int) (H' : Hp), 0 ≤ d → d < n → PotAt H' p → But p H H' → Q (.int d) H'
def spPot (K : PySem.W.Frag) : Sp := fun vs H Q _ => ∃ (a : Addr) (ns : List Int) (k : Int), vs = [.ref a, .int k] ∧ SqL K H a (ns.map V.int) ∧ 0 ≤ k ∧ k < 1000 ∧
  ∀ (p : Addr) (H' : Hp), H p = none → PotAt H' p → Same H H' → Q (.ref p) H'
/-- an element of a list, or a sign of a text -/
def spPick (K : PySem.W.Frag) : Sp := fun vs H Q _ => ∃ (p : Addr) (v : V), vs = [.ref p, v] ∧ PotAt H p ∧
  ((∃ z : Str, v = .str z ∧ 0 < z.length ∧ z.length ≤ 1000 ∧ ∀ (c : Nat) (H' : Hp), c ∈ z.cps.toList → PotAt H' p → But p H H' → Q (.str ⟨#[c]⟩) H') ∨
   (∃ (a : Addr) (xs : List V), v = .ref a ∧ a ≠ p ∧ H a = some (.lst xs) ∧ 0 < xs.length ∧ xs.length ≤ 1000 ∧ ∀ (x : V) (H' : Hp), x ∈ xs → PotAt H' p → But p H H' → Q x H'))
def spWord : Sp := fun vs H Q _ => ∃ (p : Addr), vs = [.ref p] ∧ PotAt H p ∧
  ∀ (z : Str) (H' : Hp), z.length ≤ 7 → (∀ c ∈ z.cps.toList, 97 ≤ c ∧ c ≤ 101) → PotAt H' p → But p H H' → Q (.str z) H'
section
variable {P : Program} {w : World} {K : PySem.W.Frag} {mg : Str → Option Value} {base : Heap} {ad : Str → Addr} {fd : Str → FuncData}
theorem call_divmodP {X : Cx} : CallR X (.builtin "divmod") (fun xs H Q => ∃ i j, xs = [.int i, .int j] ∧ (0 < j ∧ j.natAbs.log2 < 9000) ∧ ∀ p, H p = none → Q (.ref p) (upd H p (.tup [.int (i / j), .int (i % j)]))) := by
  intro pins s σ H xs us Q I r h
  obtain ⟨i, j, e, c, q⟩ := h
  exact call_divmodW pins s σ H xs us Q I r ⟨i, j, e, ⟨c.1, PyProof.noPylong_of_log2 c.2⟩, q⟩
theorem scDraw : FnScope ["_law_pot_here", "_law_size", "_law_digit"] ["_law_pot_here", "_law_size"] (defScope sDraw) := ⟨rfl, rfl, rfl, by decide +kernel, rfl, by decide +kernel, by decide +kernel⟩
theorem ok_draw (X : Tx K mg ad fd) : FnOk P w K mg base CX0 1 (ad "_law_draw") (fd "_law_draw") ["_law_pot_here", "_law_size"] spDraw := by
  refine X.F__law_draw.ok scDraw (fun vs H Q E h => ?_) (fun cdv A outer s H vs Q E hr h => ?_)
  · obtain ⟨p, n, rfl, _⟩ := h
    rfl
  · obtain ⟨p, n, rfl, ⟨x, y, hp, hx, hy, hy2⟩, hn, hlog, q⟩ := h
    refine ⟨_, (pss_cons (ps_if (pt_cmpR op_gt (pe_ix ix_list (pv 0) pe_int (fun _ _ => rfl)) pe_int (nomark _))
  (pss_cons (ps_asg (by exact (pe_callB call_divmodP (by rfl) X.m_divmod (by decide +kernel) (pa_cons (pe_ix ix_list (pv 0) pe_int (fun _ _ => rfl)) (pa_cons (pv 1) pa_nil)))) (pg_tup rfl (pgs_cons (pg_sub (pv 0) pe_int set_list) (pgs_cons (pg_name (i := 2) scDraw.nd rfl (.inl rfl)) pgs_nil))))
  (pss_one (ps_ret (by exact (pv 2)))))
  pss_nil)
  (pss_cons (ps_asg (by exact (pe_op op_mod (pe_callTy call_int1 (by rfl) X.m_int (by decide +kernel) (pa_cons (pe_op op_add (pe_op op_mul (pe_ix ix_list (pv 0) pe_int (fun _ _ => rfl)) pe_int) pe_int) pa_nil)) pe_int)) (pg_sub (pv 0) pe_int set_list))
  (pss_one (ps_ret (by exact (pe_op op_mod (pe_callTy call_int1 (by rfl) X.m_int (by decide +kernel) (pa_cons (pe_op op_fdiv (pe_op op_mod (pe_callTy call_int1 (by rfl) X.m_int (by decide +kernel) (pa_cons (pe_op op_mul (pe_ix ix_list (pv 0) pe_int (fun _ _ => rfl)) (pe_ix ix_list (pv 0) pe_int (fun _ _ => rfl))) pa_nil)) pe_int) pe_int) pa_nil)) (pv 1))))))), ?_⟩
    refine ⟨.ref p, rfl, p, _, 0, .int x, rfl, rfl, SqL.of hp, atI_nat (j := 0) rfl, _, _, rfl, rfl, _, rfl, ite2 (fun e => ?_) (fun e => ?_)⟩
    · have h0 : 0 < x := of_decide_eq_true e
      refine ⟨.ref p, rfl, p, _, 0, .int x, rfl, rfl, SqL.of hp, atI_nat (j := 0) rfl, .int n, rfl, x, n, rfl, ⟨by omega, hlog⟩, fun t ht => ?_⟩
      have npt : p ≠ t := ne_of_none hp ht
      have hp' : (upd H t (.tup [.int (x / n), .int (x % n)])) p = some (.lst [.int x, .int y]) := by rw [upd_ne npt]; exact hp
      refine ⟨t, [.int (x / n), .int (x % n)], rfl, SqT.of upd_same, rfl, .int (x / n), _, rfl, .ref p, rfl, p, [.int x, .int y], 0, 0, rfl, rfl, hp', rfl, .int (x % n), [], rfl, rfl, .int (x % n), rfl, ?_⟩
      refine q _ _ (Int.emod_nonneg _ (by omega)) (Int.emod_lt_of_pos _ (by omega)) ⟨x / n, y, upd_same, Int.ediv_nonneg hx (by omega), hy, hy2⟩ ?_
      exact (But.new ht).trans But.upd
    · refine ⟨.ref p, rfl, p, _, 1, .int y, rfl, rfl, SqL.of hp, atI_nat (j := 1) rfl, y, 41201, rfl, rfl, .inr ⟨by decide, by decide⟩, _, _, rfl, rfl, .inl ⟨_, rfl, _, _, rfl, rfl, (by show (0 : Int) < 2147483587; decide), .ref p, rfl, p, [.int x, .int y], 1, 1, rfl, rfl, hp, rfl, ?_⟩⟩
      have y1 : 0 ≤ (y * 41201 + 12347) % 2147483587 := Int.emod_nonneg _ (by decide)
      have y2 : (y * 41201 + 12347) % 2147483587 < 2147483587 := Int.emod_lt_of_pos _ (by decide)
      refine ⟨.ref p, rfl, p, _, 1, (.int ((y * 41201 + 12347) % 2147483587)), rfl, rfl, SqL.of upd_same, atI_nat (j := 1) rfl, .ref p, rfl, p, _, 1, (.int ((y * 41201 + 12347) % 2147483587)), rfl, rfl, SqL.of upd_same, atI_nat (j := 1) rfl, ((y * 41201 + 12347) % 2147483587), ((y * 41201 + 12347) % 2147483587), rfl, rfl, .inl ⟨by omega, by omega⟩, .inl ⟨_, rfl, _, _, rfl, rfl, (by show (0 : Int) < 2147483549; decide), _, _, rfl, rfl, ⟨by decide, by decide⟩, .inl ⟨_, rfl, .int n, rfl, _, n, rfl, rfl, (by show 0 < n; omega), ?_⟩⟩⟩
      exact q _ _ (Int.emod_nonneg _ (by omega)) (Int.emod_lt_of_pos _ (by omega)) ⟨x, ((y * 41201 + 12347) % 2147483587), upd_same, hx, y1, by omega⟩ But.upd
end
end K11
end

section
set_option maxHeartbeats 4000000
namespace K11
open PySem PySem.Spec PyProof.Rows L2
section
variable {P : Program} {w : World} {K : PySem.W.Frag} {mg : Str → Option Value} {base : Heap} {ad : Str → Addr} {fd : Str → FuncData}
theorem scPot : FnScope ["_law_script", "_law_k", "_law_cell"] ["_law_script", "_law_k"] (defScope sPot) := ⟨rfl, rfl, rfl, by decide +kernel, rfl, by decide +kernel, by decide +kernel⟩
theorem ok_pot (X : Tx K mg ad fd) : FnOk P w K mg base CX0 1 (ad "_law_pot") (fd "_law_pot") ["_law_script", "_law_k"] (spPot K) := by
  refine X.F__law_pot.ok scPot (fun vs H Q E h => ?_) (fun cdv A outer s H vs Q E hr h => ?_)
  · obtain ⟨a, ns, k, rfl, _⟩ := h
    rfl
  · obtain ⟨a, ns, k, rfl, hS, hk0, hk1, q⟩ := h
    refine ⟨_, (pss_cons (ps_set (i := 2) scPot.nd rfl (.inl rfl) (by exact (pe_op op_add (pe_op op_mul pe_int (pv 1)) pe_int)))
  (pss_cons (ps_if (pt_cmpR op_lt (pv 1) (pe_callB call_len (by rfl) X.m_len (by decide +kernel) (pa_cons (pv 0) pa_nil)) (nomark _))
  (pss_one (ps_set (i := 2) scPot.nd rfl (.inl rfl) (by exact (pe_callB call_abs (by rfl) X.m_abs (by decide +kernel) (pa_cons (pe_ix ix_list (pv 0) (pv 1) (fun _ _ => rfl)) pa_nil)))))
  pss_nil)
  (pss_one (ps_ret (by exact (pe_lst (pa_cons (pe_callB (call_max2 rfl) (by rfl) X.m_max (by decide +kernel) (pa_cons pe_int (pa_cons (pe_op op_sub (pv 2) (pe_op op_pow pe_int pe_int)) pa_nil))) (pa_cons (pe_op op_add (pe_op op_mod (pe_op op_mul (pe_callTy call_int1 (by rfl) X.m_int (by decide +kernel) (pa_cons (pe_op op_add (pe_op op_mod (pe_callTy call_int1 (by rfl) X.m_int (by decide +kernel) (pa_cons (pv 2) pa_nil)) pe_int) pe_int) pa_nil)) (pe_op op_pow (pe_op op_add (pe_op op_mul pe_int (pv 1)) pe_int) pe_int)) pe_int) pe_int) pa_nil)))))))), ?_⟩
    refine ⟨_, rfl, 31, k, rfl, rfl, .inl ⟨by decide, by decide⟩, _, _, rfl, rfl, .int k, rfl, .ref a, rfl, _, _, rfl, .inl ⟨_, hS, rfl⟩, _, _, rfl, rfl, _, rfl, ite2 (fun e => ?_) (fun e => ?_)⟩
    · have hlt : k < ((ns.map V.int).length : Int) := of_decide_eq_true e
      obtain ⟨j, rfl⟩ := Int.eq_ofNat_of_zero_le hk0
      have hj : j < ns.length := by rw [List.length_map] at hlt; omega
      have hg : (ns.map V.int)[j]? = some (.int ns[j]) := by rw [List.getElem?_map, List.getElem?_eq_getElem hj]; rfl
      refine ⟨.ref a, rfl, .int j, rfl, a, _, _, _, rfl, rfl, hS, atI_nat hg, _, rfl, ?_⟩
      have c0 : 0 ≤ (if ns[j] < 0 then -ns[j] else ns[j]) := by split <;> omega
      generalize (if ns[j] < 0 then -ns[j] else ns[j]) = c at c0
      refine ⟨.int c, rfl, 10, 18, rfl, rfl, ⟨by decide, by decide, by decide⟩, c, 10 ^ 18, rfl, rfl, 0, c - 10 ^ 18, rfl, ?_⟩
      refine ⟨.int c, rfl, .inl ⟨c, rfl, c, 2147483549, rfl, rfl, (by show (0 : Int) < 2147483549; decide), c % 2147483549, 13, rfl, rfl, .inl ⟨_, rfl, ?_⟩⟩⟩
      have d0 : 0 ≤ c % 2147483549 := Int.emod_nonneg _ (by decide)
      have d1 : c % 2147483549 < 2147483549 := Int.emod_lt_of_pos _ (by decide)
      refine ⟨.int (j : Int), rfl, 2, (j : Int), rfl, rfl, .inl ⟨by decide, by decide⟩, 2 * (j : Int), 5, rfl, rfl, 2 * (j : Int) + 5, 3, rfl, rfl, ⟨by decide, by decide, by show (2 * (j : Int) + 5).natAbs < 2 ^ 64; omega⟩, c % 2147483549 + 13, (2 * (j : Int) + 5) ^ 3, rfl, rfl, .inl ⟨by omega, by omega⟩, _, 2147483477, rfl, rfl, (by show (0 : Int) < 2147483477; decide), _, 1, rfl, rfl, (by show 2 ≤ sizeLine; decide), fun p hp => ?_⟩
      have y0 : 0 ≤ ((c % 2147483549 + 13) * (2 * (j : Int) + 5) ^ 3) % 2147483477 := Int.emod_nonneg _ (by decide)
      have y1 : ((c % 2147483549 + 13) * (2 * (j : Int) + 5) ^ 3) % 2147483477 < 2147483477 := Int.emod_lt_of_pos _ (by decide)
      refine q p _ hp ⟨if c - 10 ^ 18 > 0 then c - 10 ^ 18 else 0, ((c % 2147483549 + 13) * (2 * (j : Int) + 5) ^ 3) % 2147483477 + 1, upd_same, by split <;> omega, by omega, by omega⟩ (Same.new hp)
    · have c0 : 0 ≤ 31 * k + 19 := by omega
      refine ⟨.int (31 * k + 19), rfl, 10, 18, rfl, rfl, ⟨by decide, by decide, by decide⟩, (31 * k + 19), 10 ^ 18, rfl, rfl, 0, (31 * k + 19) - 10 ^ 18, rfl, ?_⟩
      refine ⟨.int (31 * k + 19), rfl, .inl ⟨31 * k + 19, rfl, (31 * k + 19), 2147483549, rfl, rfl, (by show (0 : Int) < 2147483549; decide), (31 * k + 19) % 2147483549, 13, rfl, rfl, .inl ⟨_, rfl, ?_⟩⟩⟩
      have d0 : 0 ≤ (31 * k + 19) % 2147483549 := Int.emod_nonneg _ (by decide)
      have d1 : (31 * k + 19) % 2147483549 < 2147483549 := Int.emod_lt_of_pos _ (by decide)
      refine ⟨.int k, rfl, 2, k, rfl, rfl, .inl ⟨by decide, by decide⟩, 2 * k, 5, rfl, rfl, 2 * k + 5, 3, rfl, rfl, ⟨by decide, by decide, by show (2 * k + 5).natAbs < 2 ^ 64; omega⟩, (31 * k + 19) % 2147483549 + 13, (2 * k + 5) ^ 3, rfl, rfl, .inl ⟨by omega, by omega⟩, _, 2147483477, rfl, rfl, (by show (0 : Int) < 2147483477; decide), _, 1, rfl, rfl, (by show 2 ≤ sizeLine; decide), fun p hp => ?_⟩
      have y0 : 0 ≤ (((31 * k + 19) % 2147483549 + 13) * (2 * k + 5) ^ 3) % 2147483477 := Int.emod_nonneg _ (by decide)
      have y1 : (((31 * k + 19) % 2147483549 + 13) * (2 * k + 5) ^ 3) % 2147483477 < 2147483477 := Int.emod_lt_of_pos _ (by decide)
      refine q p _ hp ⟨if (31 * k + 19) - 10 ^ 18 > 0 then (31 * k + 19) - 10 ^ 18 else 0, (((31 * k + 19) % 2147483549 + 13) * (2 * k + 5) ^ 3) % 2147483477 + 1, upd_same, by split <;> omega, by omega, by omega⟩ (Same.new hp)
theorem scPick : FnScope ["_law_pot_here", "_law_some"] ["_law_pot_here", "_law_some"] (defScope sPick) := ⟨rfl, rfl, rfl, by decide +kernel, rfl, by decide +kernel, by decide +kernel⟩
theorem log_small {n : Int} (h0 : 0 ≤ n) (h : n < 2 ^ 64) : n.natAbs.log2 < 9000 := by
  by_cases hn : n = 0
  · subst hn; decide
  · have h2 : n.natAbs < 2 ^ 64 := by omega
    have := (Nat.log2_lt (n := n.natAbs) (k := 64) (by omega)).mpr h2
    omega
theorem ok_pick (X : Tx K mg ad fd) : FnOk P w K mg base CX0 2 (ad "_law_pick") (fd "_law_pick") ["_law_pot_here", "_law_some"] (spPick K) := by
  have G__law_draw : FnOk P w K mg base CX0 1 (ad "_law_draw") (fd "_law_draw") ["_law_pot_here", "_law_size"] spDraw := ok_draw X
  refine X.F__law_pick.ok scPick (fun vs H Q E h => ?_) (fun cdv A outer s H vs Q E hr h => ?_)
  · obtain ⟨p, v, rfl, _⟩ := h
    rfl
  · obtain ⟨p, v, rfl, hp, h⟩ := h
    have HR__law_draw := hr
    refine ⟨_, (pss_one (ps_ret (by exact (pe_ix ix_seq (pv 1) (pe_call G__law_draw HR__law_draw (by rfl) X.g__law_draw X.F__law_draw.kp X.b__law_draw .nil pass0 (pa_cons (pv 0) (pa_cons (pe_callB call_len (by rfl) X.m_len (by decide +kernel) (pa_cons (pv 1) pa_nil)) pa_nil))) (fun _ _ => rfl))))), ?_⟩
    rcases h with ⟨z, rfl, z0, z1, q⟩ | ⟨a, xs, rfl, hap, ha, x0, x1, q⟩
    · refine ⟨.str z, rfl, .ref p, rfl, .str z, rfl, .str z, z.length, rfl, ⟨by rw [sizeLine_eq]; omega, rfl⟩, p, (z.length : Int), rfl, hp, by omega, log_small (by omega) (by omega), fun d H' d0 d1 hp' hb => ?_⟩
      obtain ⟨j, rfl⟩ := Int.eq_ofNat_of_zero_le d0
      have hj : j < z.cps.toList.length := by
        have e : z.cps.toList.length = z.length := by simp [Str.length]
        omega
      have hg : z.cps.toList[j]? = some z.cps.toList[j] := List.getElem?_eq_getElem hj
      refine .inr (.inr ⟨z, (j : Int), z.cps.toList[j], rfl, rfl, by rw [sizeLine_eq]; omega, atI_nat hg, ?_⟩)
      exact q _ _ (List.getElem_mem hj) hp' hb
    · refine ⟨.ref a, rfl, .ref p, rfl, .ref a, rfl, .ref a, xs.length, rfl, .inl ⟨_, SqL.of ha, rfl⟩, p, (xs.length : Int), rfl, hp, by omega, log_small (by omega) (by omega), fun d H' d0 d1 hp' hb => ?_⟩
      obtain ⟨j, rfl⟩ := Int.eq_ofNat_of_zero_le d0
      have hj : j < xs.length := by omega
      refine .inl ⟨a, xs, (j : Int), xs[j], rfl, rfl, SqL.of (hb _ _ hap ha), atI_nat (List.getElem?_eq_getElem hj), ?_⟩
      exact q _ _ (List.getElem_mem hj) hp' hb
theorem scWord : FnScope ["_law_pot_here", "_law_turn"] ["_law_pot_here"] (defScope sWord) := ⟨rfl, rfl, rfl, by decide +kernel, rfl, by decide +kernel, by decide +kernel⟩
theorem pick_chars : ∀ c ∈ (PySem.Str.ofString "abcdabcdabcde").cps.toList, 97 ≤ c ∧ c ≤ 101 := by decide +kernel
theorem joinL_nil : ∀ ps : List (List Nat), TL.joinL [] ps = ps.flatten := by
  intro ps
  induction ps with
  | nil => rfl
  | cons a r ih =>
    cases r with
    | nil => simp [TL.joinL]
    | cons b t => simp only [TL.joinL, ih]; simp
theorem join_empty (ys : List Str) : TL.tl (Txt.join (PySem.Str.ofString "") ys) = (ys.map TL.tl).flatten := by
  rw [TL.join_eq, TL.tl_join, show TL.tl (PySem.Str.ofString "") = [] by decide +kernel, joinL_nil]
/-- texts of one sign each -/
theorem join_signs (cs : List Nat) : TL.tl (Txt.join (PySem.Str.ofString "") (cs.map fun c => (⟨#[c]⟩ : Str))) = cs := by
  rw [join_empty]
  induction cs with
  | nil => rfl
  | cons c r ih =>
    rw [List.map_cons, List.map_cons, List.flatten_cons, ih]
    rfl
theorem sum_ones (cs : List Nat) : ((cs.map fun c => (⟨#[c]⟩ : Str)).map fun x => x.length).sum = cs.length := by
  induction cs with
  | nil => rfl
  | cons c r ih => rw [List.map_cons, List.map_cons, List.sum_cons, ih, List.length_cons]; show 1 + r.length = _; omega
theorem ok_word (X : Tx K mg ad fd) : FnOk P w K mg base CX0 3 (ad "_law_word") (fd "_law_word") ["_law_pot_here"] spWord := by
  have G__law_draw : FnOk P w K mg base CX0 1 (ad "_law_draw") (fd "_law_draw") ["_law_pot_here", "_law_size"] spDraw := ok_draw X
  have G__law_pick : FnOk P w K mg base CX0 2 (ad "_law_pick") (fd "_law_pick") ["_law_pot_here", "_law_some"] (spPick K) := ok_pick X
  refine X.F__law_word.ok scWord (fun vs H Q E h => ?_) (fun cdv A outer s H vs Q E hr h => ?_)
  · obtain ⟨p, rfl, _⟩ := h
    rfl
  · obtain ⟨p, rfl, hp, q⟩ := h
    have HR__law_draw : Room 1 _ := hr.mono (by decide)
    have HR__law_pick := hr
    refine ⟨_, (pss_one (ps_ret (by exact (pe_join pe_str (pe_lc (own := [("_law_turn", 1)]) (g := gName 1) rfl scWord.nd (pi_range1 (by rfl) X.m_range (pa_cons (pe_call G__law_draw HR__law_draw (by rfl) X.g__law_draw X.F__law_draw.kp X.b__law_draw .nil pass0 (pa_cons (pv 0) (pa_cons pe_int pa_nil))) pa_nil)) (blkOk_by (own := [("_law_turn", 1)]) (N := ["_law_pot_here", "_law_turn"]) (sc := defScope sWord) (by decide +kernel)) (fun _ _ _ _ _ => pg_name (i := 1) scWord.nd rfl (Or.inl rfl)) (fun _ _ _ _ _ => pts_nil) (fun _ _ _ _ _ => (pe_call G__law_pick HR__law_pick (by rfl) X.g__law_pick X.F__law_pick.kp X.b__law_pick .nil pass0 (pa_cons (pv 0) (pa_cons pe_str pa_nil))))))))), ?_⟩
    refine ⟨⟨_, rfl⟩, .ref p, rfl, p, 8, rfl, hp, by decide, by decide, fun d H1 d0 d1 hp1 hb1 => ?_⟩
    obtain ⟨n, rfl⟩ := Int.eq_ofNat_of_zero_le d0
    refine ⟨n, rfl, by omega, by omega, fun D hD => ?_⟩
    have npD : p ≠ D := by
      obtain ⟨_, _, e, _⟩ := hp1
      exact ne_of_none e hD
    refine lc_range (lo := 0) (n := n) (fun i H' => ∃ cs : List Nat, cs.length = i ∧ (∀ c ∈ cs, 97 ≤ c ∧ c ≤ 101) ∧ H' D = some (.lst ((cs.map fun c => (⟨#[c]⟩ : Str)).map V.str)) ∧ PotAt H' p ∧ But p H H')
      ⟨[], rfl, (fun _ h => nomatch h), upd_same, ?_, ?_⟩ (fun i H' hi hP => ?_) (fun H' hP => ?_)
    · obtain ⟨x, y, e, h⟩ := hp1
      exact ⟨x, y, by rw [upd_ne npD]; exact e, h⟩
    · exact hb1.trans (But.new hD)
    · obtain ⟨cs, el, hc, eD, hp', hb'⟩ := hP
      refine ⟨rfl, .ref p, rfl, p, _, rfl, hp', .inl ⟨_, rfl, by decide +kernel, by decide +kernel, fun c H2 hcm hp2 hb2 => ⟨_, hb2 _ _ npD.symm eD, ?_, cs ++ [c], ?_, ?_, ?_, ?_, ?_⟩⟩⟩
      · rw [List.length_map, List.length_map, sizeLine_eq]; omega
      · rw [List.length_append, el]; rfl
      · intro c' h'
        rcases List.mem_append.mp h' with h' | h'
        · exact hc c' h'
        · rw [List.mem_singleton.mp h']
          exact pick_chars c hcm
      · rw [upd_same, List.map_append, List.map_append]; rfl
      · obtain ⟨x, y, e, h⟩ := hp2
        exact ⟨x, y, by rw [upd_ne npD]; exact e, h⟩
      · intro b o hb e
        have nb : b ≠ D := ne_of_none (hb1 b o hb e) hD
        rw [upd_ne nb]
        exact hb2 b o hb (hb' b o hb e)
    · obtain ⟨cs, el, hc, eD, hp', hb'⟩ := hP
      refine ⟨_, D, cs.map fun c => (⟨#[c]⟩ : Str), rfl, rfl, .inl (SqL.of eD), ?_, ?_⟩
      · rw [sum_ones, el, show (PySem.Str.ofString "").length = 0 by decide +kernel]; omega
      · have ej := join_signs cs
        refine q _ _ ?_ ?_ hp' hb'
        · show (Txt.join _ _).cps.size ≤ 7
          have e2 : (Txt.join (PySem.Str.ofString "") (cs.map fun c => (⟨#[c]⟩ : Str))).cps.toList = cs := ej
          rw [← Array.length_toList, e2]; omega
        · intro c hcm
          have e2 : (Txt.join (PySem.Str.ofString "") (cs.map fun c => (⟨#[c]⟩ : Str))).cps.toList = cs := ej
          rw [e2] at hcm
          exact hc c hcm
end
end K11
end

section
set_option maxHeartbeats 4000000
/-! defs that call repr: the same promises as FnOk, where it is known that no repr is under way -/
namespace K11
open PySem PySem.Spec PyProof.Rows L2
structure RoomG (k : Nat) (A : Around) : Prop where
  rm : Room k A
  gd : A.guards = some []
theorem RoomG.mono {j k : Nat} {A : Around} (r : RoomG k A) (h : j ≤ k) : RoomG j A := ⟨r.rm.mono h, r.gd⟩
theorem RoomG.deeper {k : Nat} {A : Around} (r : RoomG (k + 1) A) (env : Env) : RoomG k (A.deeper env) := ⟨r.rm.deeper env, r.gd⟩
structure FnG (P : Program) (w : World) (K : PySem.W.Frag) (mg : Str → Option Value) (base : Heap) (k : Nat) (f : Addr) (fd : FuncData) (ps : List Str) (sp : Sp) : Prop where
  len : ∀ vs H Q E, sp vs H Q E → vs.length = ps.length
  run : ∀ (A : Around) (outer : List Env) (s : Shared) (H : Hp) (args : Args) (us : List Value) (vs : List V) (Q : VK) (E : XK), RoomG k A → Env0 P w K mg base A outer s H → BindsTo s fd args (ps.zip us) → Vals vs us → sp vs H Q E →
    codeAny (model P w) A (.call (.ref f) args) (CR CX0 outer P w H s Q E) s
section
variable {P : Program} {w : World} {K : PySem.W.Frag} {mg : Str → Option Value} {base : Heap}
theorem fnG_body {x qual : Str} {st : Stmt} {f : Addr} {fd : FuncData} {N ps : List Str} {k : Nat} {sp : Sp} (F : Fun K x qual st f fd) (S : FnScope N ps (defScope st)) (ln : ∀ vs H Q E, sp vs H Q E → vs.length = ps.length)
    (hb0 : ∀ (cdv : Value) (A : Around) (outer : List Env) (s : Shared) (H : Hp) (vs : List V) (Q : VK) (E : XK), RoomG k (A.deeper (envOfC qual (defScope st) s.heap.objs.size f cdv)) → sp vs H Q E →
      ∃ t, PSs (cxOf CX0 P w K mg base N qual (defScope st) f cdv A outer s H E).nox (defBody st) t ∧ t { nx := fun _ H' => Q .non H', rt := Q } (start N vs) H) : FnG P w K mg base (k + 1) f fd ps sp where
  len := ln
  run A outer s H args us vs Q E hr e0 hbd rv hs := by
    obtain ⟨oc, od, kV, doc, pm, an, cdv, ct, osl, rfl, lk, hcd⟩ := F.ex
    have old := fun b o (e : base.get? b = some o) => (e0.bs b o e).1
    have inK : K.In s.heap := e0.mod.kin.keeps old
    have hkn : ∀ q ∈ ps.zip us, (defScope st).names.lookup q.1 = some .local ∨ ((defScope st).names.lookup q.1 = some .cell ∧ ((cellsFrom (s.heap.objs.size + 1) (defScope st).names []).lookup q.1).isSome = true) := by
      rintro ⟨n, v⟩ hq
      exact (S.par n (List.of_mem_zip hq).1).elim .inl fun c => .inr ⟨c, PySem.W.cellsFrom_some _ _ _ (.inl c)⟩
    have body : ∀ s1 : Shared, InCallC s s.heap.objs.size (bindL (envOfC qual (defScope st) s.heap.objs.size f cdv).kindOf (ps.zip us) fun _ => none) (cellsFrom (s.heap.objs.size + 1) (defScope st).names []) (bindC (envOfC qual (defScope st) s.heap.objs.size f cdv).kindOf (ps.zip us) fun _ => none) s1 →
        wpAny (model P w) (A.deeper (envOfC qual (defScope st) s.heap.objs.size f cdv)) (execs (defBody st) (envOfC qual (defScope st) s.heap.objs.size f cdv)) (fun fl s' => match fl with | .next => CE outer P w H s Q Value.none s' | .ret u => CE outer P w H s Q u s' | _ => False) (cxOf CX0 P w K mg base N qual (defScope st) f cdv A outer s H E).xe s1 := by
      intro s1 hx
      obtain ⟨t, ht, hq⟩ := hb0 cdv A outer s H vs Q E (hr.deeper _) hs
      have J := inv_start (CX := CX0) (E := E) S hr.rm.hd e0 (ln _ _ _ _ hs) rv hx
      refine wpAny_mono (ht.nox.run [] s1 (start N vs) H _ J hq) (fun fl s' hf => ?_) (fun e s' hf => hf)
      match fl, hf with
      | .next, ⟨σ', H', I', q⟩ => exact ⟨.non, H', I'.os, I'.bare, I'.base, I'.hok, rfl, q⟩
      | .ret u, ⟨v, σ', H', I', r', q⟩ => exact ⟨v, H', I'.os, I'.bare, I'.base, I'.hok, r', q⟩
      | .brk, ⟨_, _, _, q⟩ => exact (show False from q).elim
      | .cont, ⟨_, _, _, q⟩ => exact (show False from q).elim
    refine codeAny_call_function hr.rm.depth (inK _ _ lk) rfl S.co S.gen rfl (PySem.W.codeRec_of inK hcd) (hbd _ _ _ _ ?_)
    refine wpAny_newFunctionEnv_cells S.kind hkn fun env he s1 hx => ?_
    subst he
    refine ⟨(e0.mod.nolimit.keeps old).keeps hx.toInCall.keep, codeAny_func ?_⟩
    refine wpAny_mono (body s1 hx) (fun fl s' hf => ?_) (fun e s' hf => hf)
    cases fl with
    | ret u => exact hf
    | next => exact hf
    | brk => exact (show False from hf).elim
    | cont => exact (show False from hf).elim
theorem FnG.of {k : Nat} {f : Addr} {fd : FuncData} {ps : List Str} {sp : Sp} (F : FnOk P w K mg base CX0 k f fd ps sp) : FnG P w K mg base k f fd ps sp := ⟨F.len, fun A o s H a us vs Q E r => F.run A o s H a us vs Q E r.rm⟩
end
section
variable {X : Cx} {k : Nat} {f : Addr} {fd : FuncData} {ps : List Str} {sp : Sp} {E : XK} {x : Str} {p pos : Pos} {e : Expr} {es : List Expr} {t : TA}
theorem run_g {pins : List (Addr × Obj)} {σ : L2.St} {H : Hp} {s : Shared} {Q : VK} {us : List Value} {vs : List V} (F : FnG X.prog X.w X.K X.mg X.base k f fd ps sp) (hr : RoomG k X.A) (hb : Binds X.K fd ps [])
    (I : Inv X pins σ H s) (r : Vals vs us) (h : sp vs H Q E) : wpAny (model X.prog X.w) X.A (call (.ref f) us) (EP X pins σ Q) X.xe s := by
  have hl : us.length = ps.length := r.length.symm.trans (F.len _ _ _ _ h)
  have hb' := hb s us I.kIn (by rw [List.append_nil]; exact hl)
  rw [List.append_nil] at hb'
  refine wpAny_call (codeAny_mono (F.run X.A X.stack s H ⟨us, []⟩ us vs Q E hr I.env0 hb' r h) ?_)
  intro res s' hq
  match res, hq with
  | .ok (.ret u), hq => exact I.after hq
theorem pe_callG (F : FnG X.prog X.w X.K X.mg X.base k f fd ps sp) (hr : RoomG k X.A) (hg : Gl X x) (hm : X.mg x = some (.ref f)) (hk : PySem.W.keepIn X.K (.ref f) = true) (hb : Binds X.K fd ps [])
    (ha : PA X (e :: es) t) (hdb : (x == ("__debug__" : Str)) = false := by decide) (he : starEach (e :: es) X.env = (false, eval e X.env) :: starEach es X.env := by rfl) (hpl : (backTo pos (starEach es X.env)).any (·.1) = false := by rfl) :
    PE X (.Call (.Name x p) (e :: es) [] pos) (tCall sp [] E t) :=
  ⟨fun pins s σ H Q I h => wpAny_Call_Name_kw (ld_glob I hg hm (PySem.W.callWith_K (h₀ := X.base) I.ok.mod.kin hk (thn (ha.run pos pins s σ H _ I h) fun us s1 ⟨vs, H1, I1, r, q⟩ => ⟨I1.kIn, run_g (E := E) F hr hb I1 r (by have q' : sp (vs ++ []) H1 Q E := q; rw [List.append_nil] at q'; exact q')⟩) he hpl) hdb)⟩
end
end K11
end

section
set_option maxHeartbeats 4000000
/-! the end of a law whose defs call repr -/
namespace K11
open PySem PySem.Spec PyProof.Rows L2
/-- what is tracked at the law's call: the script, unless it is one of the module's own objects -/
def H0 (K : PySem.W.Frag) (a : Addr) (o : Obj) (xs : List V) : Hp := fun b => if b = a ∧ K.lookup a = none then some (.frz o (.lst xs)) else none
theorem H0_some {K : PySem.W.Frag} {a : Addr} {o : Obj} {xs : List V} {b : Addr} {u : HO} (h : H0 K a o xs b = some u) : b = a ∧ K.lookup a = none ∧ u = .frz o (.lst xs) := by
  unfold H0 at h
  split at h
  · rename_i c
    exact ⟨c.1, c.2, (Option.some.inj h).symm⟩
  · cases h
theorem law_endG {P : Program} {w : World} {K : PySem.W.Frag} {mg mb : Str → Option Value} {k : Nat} {fa a : Addr} {fd : FuncData} {x : Str} {sp : Sp} {s₁ : Shared} {vs : List Value} {ns : List Int}
    (inK : K.In s₁.heap) (gl : s₁.heap.Ns mainGlobals mg) (bl : s₁.heap.Ns builtinsNs mb) (bb : ∀ x : Str, x ≠ "__name__" → mb x = bootBuiltins x) (nl : s₁.heap.NoLimit) (g0 : s₁.gens = #[])
    (at_a : s₁.heap.get? a = some { cls := .type "list", data := .seq vs.toArray }) (hints : IntsAre vs ns) (size : ns.length ≤ sizeLine) (room : Room k callerA)
    (F : ∀ base : Heap, K.In base → base.Ns mainGlobals mg → FnG P w K mg base k fa fd [x] sp) (bind : ∀ (s : Shared) (u : Value), BindsTo s fd ⟨[u], []⟩ [(x, u)])
    (goal : ∀ H : Hp, Only H → SqL K H a (ns.map V.int) → sp [.ref a] H (fun v _ => v = .bl true) fun _ _ _ => False) :
    codeAny (model P w) callerA (.call (.ref fa) ⟨[.ref a], []⟩) (fun r s' => r = .ok (.ret (.bool true)) ∧ OldK s₁.heap s'.heap ∧ s'.os = s₁.os ∧ AllBare s'.gens) s₁ := by
  let ob : Obj := { cls := .type "list", data := .seq vs.toArray }
  have vals := vals_ints hints
  let H := H0 K a ob (ns.map V.int)
  have only : Only H := fun b => by
    cases e : H b with
    | none => exact .inl rfl
    | some u => exact .inr ⟨_, _, congrArg some (H0_some e).2.2⟩
  have sq : SqL K H a (ns.map V.int) := by
    cases e : K.lookup a with
    | some o =>
      have z : o = ob := Option.some.inj ((inK a o e).symm.trans at_a)
      subst z
      exact .inr ⟨_, _, _, e, rfl, rfl, rfl, by rw [List.size_toArray, hints.length]; exact size, by simpa using vals⟩
    | none => exact .inl (.inr ⟨ob, if_pos ⟨rfl, e⟩⟩)
  have ok : HOk P w H s₁.heap := fun b u e => by
    obtain ⟨rfl, _, rfl⟩ := H0_some e
    exact ⟨at_a, by rw [List.length_map]; exact size, vs, _, vals, at_a⟩
  have up : ∀ {b : Addr} {o : Obj}, s₁.heap.get? b = some o → H b = none → (hidT s₁.heap H).get? b = some o := fun e n => hidT_get e n
  have inB : K.In (hidT s₁.heap H) := fun b o e => up (inK b o e) (by
    cases z : H b with
    | none => rfl
    | some u =>
      obtain ⟨rfl, n, _⟩ := H0_some z
      have n2 : K.lookup b = some o := e
      rw [n] at n2; cases n2)
  have ns' : ∀ {b : Addr} {m : Str → Option Value}, s₁.heap.Ns b m → (hidT s₁.heap H).Ns b m := by
    rintro b m ⟨o, es, ep, e, d, r⟩
    refine ⟨o, es, ep, up e ?_, d, r⟩
    cases z : H b with
    | none => rfl
    | some u =>
      obtain ⟨rfl, _, _⟩ := H0_some z
      have z2 : o = ob := Option.some.inj (e.symm.trans at_a)
      subst z2
      have d' : Data.seq vs.toArray _ = Data.dict es ep := d
      cases d'
  have md : Mod K mg (hidT s₁.heap H) := ⟨inB, ns' gl, ⟨mb, ns' bl, bb⟩, nl.elim fun mc q => ⟨mc, ns' q.1, q.2⟩⟩
  have nofr : ∀ b, b ∉ frs ([] : List Env) := fun b z => by cases (show b ∈ ([] : List Addr) from z)
  have e0 : Env0 P w K mg (hidT s₁.heap H) callerA [] s₁ H := ⟨rfl, md, fun b o e => of_hidT e, Nat.le_of_eq (hidT_size _ _), trivial, fun b z => (nofr b z).elim, ok, .of_eq g0⟩
  refine codeAny_mono ((F _ inB (ns' gl)).run callerA [] s₁ H ⟨[.ref a], []⟩ [.ref a] [.ref a] _ _ ⟨room, rfl⟩ e0 (bind s₁ (.ref a)) (.cons rfl .nil) (goal H only sq)) ?_
  intro r s' hr
  match r, hr with
  | .ok (.ret u), ⟨v, H', os, bare, un, ok', rv, (hv : v = .bl true)⟩ =>
    subst hv
    obtain rfl : u = Value.bool true := rv
    refine ⟨rfl, OldK.of_keep fun b o e => ?_, os, bare⟩
    rcases only b with z | ⟨o2, xs, z⟩
    · exact un.keep b o e z (nofr b) (by simp)
    · have old := (ok b _ z).1
      rw [e] at old
      cases old
      exact (ok' b _ (un.frzs b _ _ z)).1
theorem walk_ofG {l : PySem.W.OpenLaw} {n k : Nat} {q : Program} {loose : List Str} {XP : (Str → Option Value) → Heap → Prop} {YP : World → Heap → Prop} {d : DefRec} {K : Params → PySem.W.Frag} {sp : World → Sp} {x : Str}
    (hn : l.most = some n) (hn2 : n ≤ sizeLine) (hdf : d.params.defaults = []) (hr : Room k callerA)
    (hY : ∀ (w : World) (h : Heap), YP w h → (K w.params).In h)
    (F : ∀ (w : World) (mg : Str → Option Value) (fa : Addr) (h : Heap), (K w.params).In h → h.Ns mainGlobals mg → mg d.name = some (.ref fa) →
      ∃ fd : FuncData, (∀ (s : Shared) (u : Value), BindsTo s fd ⟨[u], []⟩ [(x, u)]) ∧ ∀ base : Heap, (K w.params).In base → base.Ns mainGlobals mg → FnG l.prog w (K w.params) mg base k fa fd [x] (sp w))
    (hsp : ∀ (w : World) (H : Hp) (a : Addr) (ns : List Int), ns.length ≤ n → Only H → SqL (K w.params) H a (ns.map V.int) → sp w [.ref a] H (fun v _ => v = .bl true) fun _ _ _ => False) :
    PySem.W.WalkO q loose XP YP l.row.toRowW d [] (fun f vs => PySem.call f vs) :=
  Att.attach_call hn hdf fun w s₀ s₁ mg mb fa o pm cd doc a vs ns G Y ho hd hcd hmg hobj hints hlen hg => by
    obtain ⟨fd, hb, hF⟩ := F w mg fa _ (hY w _ Y) G.T.g hmg
    exact law_endG (hY w _ Y) G.T.g G.T.b G.T.builtins G.T.nolimit hg hobj hints (Nat.le_trans hlen hn2) hr hF hb fun H hO hS => hsp w H a ns hlen hO hS
end K11
end

section
set_option maxHeartbeats 4000000
/-! repr of data -/
namespace K11
open PySem PySem.Spec PyProof.Rows L2
def keyD : Key → PyData
  | .inl i => .int i
  | .inr x => .str x
mutual
/-- the value v reads as the data d -/
inductive Dx (H : Hp) : V → PyData → Prop
  | non : Dx H .non .none
  | bl (b : Bool) : Dx H (.bl b) (.bool b)
  | int (i : Int) : Dx H (.int i) (.int i)
  | str (x : Str) : Dx H (.str x) (.str x)
  | lst {a : Addr} {xs : List V} {ds : List PyData} : H a = some (.lst xs) → DxAll H xs ds → Dx H (.ref a) (.list ds)
  | tup {a : Addr} {xs : List V} {ds : List PyData} : H a = some (.tup xs) → DxAll H xs ds → Dx H (.ref a) (.tuple ds)
  | dic {a : Addr} {kvs : List (Key × V)} {ds : List PyData} : H a = some (.dK kvs) → DxAll H (kvs.map (·.2)) ds → Dx H (.ref a) (.dict ((kvs.map fun p => keyD p.1).zip ds))
inductive DxAll (H : Hp) : List V → List PyData → Prop
  | nil : DxAll H [] []
  | cons {v : V} {vs : List V} {d : PyData} {ds : List PyData} : Dx H v d → DxAll H vs ds → DxAll H (v :: vs) (d :: ds)
end
theorem DxAll.length {H : Hp} : ∀ {vs : List V} {ds : List PyData}, DxAll H vs ds → vs.length = ds.length
  | _, _, .nil => rfl
  | _, _, .cons _ t => by rw [List.length_cons, List.length_cons, t.length]
mutual
theorem Dx.same {H H' : Hp} (s : Same H H') : ∀ {v : V} {d : PyData}, Dx H v d → Dx H' v d
  | _, _, .non => .non
  | _, _, .bl b => .bl b
  | _, _, .int i => .int i
  | _, _, .str x => .str x
  | _, _, .lst e h => .lst (s _ _ e) (DxAll.same s h)
  | _, _, .tup e h => .tup (s _ _ e) (DxAll.same s h)
  | _, _, .dic e h => .dic (s _ _ e) (DxAll.same s h)
theorem DxAll.same {H H' : Hp} (s : Same H H') : ∀ {vs : List V} {ds : List PyData}, DxAll H vs ds → DxAll H' vs ds
  | _, _, .nil => .nil
  | _, _, .cons a b => .cons (Dx.same s a) (DxAll.same s b)
end
/-- what stands at an address is no dict of sys.modules -/
def Apart (h : Heap) (as : List Addr) : Prop := ∀ a ∈ as, (∃ o, h.get? a = some o ∧ o.cls = .type "list") ∨ (a == sysModules) = false
theorem Apart.nil {h : Heap} : Apart h [] := fun _ z => nomatch z
theorem Apart.app {h : Heap} {as bs : List Addr} (x : Apart h as) (y : Apart h bs) : Apart h (as ++ bs) := fun a z => (List.mem_append.mp z).elim (x a) (y a)
theorem Apart.cons {h : Heap} {a : Addr} {as : List Addr} (x : (∃ o, h.get? a = some o ∧ o.cls = .type "list") ∨ (a == sysModules) = false) (y : Apart h as) : Apart h (a :: as) := fun b z => (List.mem_cons.mp z).elim (fun e => by rw [e]; exact x) (y b)
theorem map_zip_fst {α β : Type} : ∀ (xs : List α) (ys : List β), xs.length = ys.length → (xs.zip ys).map (·.1) = xs
  | [], _, _ => rfl
  | x :: xs, [], h => by cases h
  | x :: xs, y :: ys, h => by rw [List.zip_cons_cons, List.map_cons, map_zip_fst xs ys (by simpa using h)]
theorem map_zip_snd {α β : Type} : ∀ (xs : List α) (ys : List β), xs.length = ys.length → (xs.zip ys).map (·.2) = ys
  | [], [], _ => rfl
  | [], _ :: _, h => by cases h
  | x :: xs, [], h => by cases h
  | x :: xs, y :: ys, h => by rw [List.zip_cons_cons, List.map_cons, map_zip_snd xs ys (by simpa using h)]
theorem key_reads {h : Heap} {P : Program} {w : World} {k : Key} {v : Value} (e : (mixKind P w).is k v = true) : Reads h v (keyD k) [] := by
  rcases keyIs_shape e with ⟨i, t, rfl, rfl⟩ | ⟨x, t, rfl, rfl⟩
  · exact .int i t
  · exact .str x t
theorem keys_read {h : Heap} {P : Program} {w : World} : ∀ {es : List DictEntry} {vs : List (Key × Value)}, Pairs (mixKind P w) es vs → ReadsAll h (es.map (·.key)) (vs.map fun p => keyD p.1) []
  | _, _, .nil => .nil
  | _, _, .cons a b c => .cons (as := []) (bs := []) (key_reads a) (keys_read c)
theorem vals_eq {P : Program} {w : World} : ∀ {es : List DictEntry} {vs : List (Key × Value)}, Pairs (mixKind P w) es vs → es.map (·.val) = vs.map (·.2)
  | _, _, .nil => rfl
  | _, _, .cons a b c => by rw [List.map_cons, List.map_cons, b, vals_eq c]
theorem kv_fst : ∀ {kvs : List (Key × V)} {vs : List (Key × Value)}, KV kvs vs → kvs.map (fun p => keyD p.1) = vs.map fun p => keyD p.1
  | _, _, .nil => rfl
  | _, _, .cons a c => by rw [List.map_cons, List.map_cons, a.1, kv_fst c]
theorem kv_snd : ∀ {kvs : List (Key × V)} {vs : List (Key × Value)}, KV kvs vs → Vals (kvs.map (·.2)) (vs.map (·.2))
  | _, _, .nil => .nil
  | _, _, .cons a c => .cons a.2 (kv_snd c)
section
variable {X : Cx} {pins : List (Addr × Obj)} {σ : L2.St} {H : Hp} {s : Shared}
mutual
theorem Dx.reads (I : L2.Inv X pins σ H s) : ∀ {v : V} {d : PyData} {u : Value}, Dx H v d → RelV v u → ∃ as, Reads s.heap u d as ∧ Apart s.heap as
  | _, _, _, .non, r => by cases r; exact ⟨_, .none, .nil⟩
  | _, _, _, .bl b, r => by cases r; exact ⟨_, .bool b, .nil⟩
  | _, _, _, .int i, r => by obtain ⟨t, rfl⟩ := r; exact ⟨_, .int i t, .nil⟩
  | _, _, _, .str x, r => by obtain ⟨t, rfl⟩ := r; exact ⟨_, .str x t, .nil⟩
  | _, _, _, .lst (a := a) e h, r => by
    cases r
    obtain ⟨_, its, n, rv, ho⟩ := (show ObjOk X.prog X.w H s.heap a (.lst _) from I.hok a _ e)
    obtain ⟨as, hr, ap⟩ := DxAll.reads I h rv
    exact ⟨_, .list ho rfl rfl (by rw [List.toList_toArray]; exact hr), .cons (.inl ⟨_, ho, rfl⟩) ap⟩
  | _, _, _, .tup (a := a) e h, r => by
    cases r
    obtain ⟨_, its, rv, o, ho, hc, n, hd⟩ := (show ObjOk X.prog X.w H s.heap a (.tup _) from I.hok a _ e)
    obtain ⟨as, hr, ap⟩ := DxAll.reads I h rv
    exact ⟨_, .tuple ho hc hd (by rw [List.toList_toArray]; exact hr), ap⟩
  | _, _, _, .dic (a := a) (kvs := kvs) (ds := ds) e h, r => by
    cases r
    obtain ⟨_, hy, vs, kv, o, es, ep, ho, hc, hd, _, ps, _⟩ := (show ObjOk X.prog X.w H s.heap a (.dK _) from I.hok a _ e)
    obtain ⟨bs, hr, ap⟩ := DxAll.reads I h (kv_snd kv)
    have el : (kvs.map fun p => keyD p.1).length = ds.length := by rw [List.length_map, ← h.length, List.length_map]
    refine ⟨_, .dict ho hc.1 hd (as := []) (bs := bs) ?_ ?_, ?_⟩
    · rw [map_zip_fst _ _ el, kv_fst kv]
      exact keys_read ps
    · rw [map_zip_snd _ _ el, vals_eq ps]
      exact hr
    · exact Apart.cons (.inr hy) ap
theorem DxAll.reads (I : L2.Inv X pins σ H s) : ∀ {vs : List V} {ds : List PyData} {us : List Value}, DxAll H vs ds → Vals vs us → ∃ as, ReadsAll s.heap us ds as ∧ Apart s.heap as
  | _, _, _, .nil, r => by cases r; exact ⟨_, .nil, .nil⟩
  | _, _, _, .cons a b, r => by
    cases r with
    | cons r1 r2 =>
      obtain ⟨as, q1, p1⟩ := Dx.reads I a r1
      obtain ⟨bs, q2, p2⟩ := DxAll.reads I b r2
      exact ⟨_, .cons q1 q2, p1.app p2⟩
end
/-- repr(x), x an object that reads as data -/
def rRepr : List V → Hp → VK → Prop := fun xs H Q => ∃ (a : Addr) (d : PyData), xs = [.ref a] ∧ Dx H (.ref a) d ∧ d.showable = true ∧ d.depth ≤ 40 ∧ d.shown.length ≤ sizeLine ∧ Q (.str d.shown) H
theorem call_repr {X : Cx} (hg : X.A.guards = some []) (hu : X.A.units + 64 < cLine) (hs : ∃ o, X.K.lookup sysModules = some o ∧ o.cls ≠ .type "list") : CallR X (.builtin "repr") rRepr := by
  intro pins s σ H xs us Q I r h
  obtain ⟨a, d, rfl, hd, sh, dp, sz, q⟩ := h
  cases r with
  | cons r0 rr =>
    cases rr
    rename_i u
    have eu : u = Value.ref a := r0
    subst eu
    obtain ⟨as, rd, ap⟩ := Dx.reads I hd r0
    refine repr_of_reads' rd sh (fun _ hm => ?_) hg (by omega) (fun b o e => e) (fun h' u tk k => ⟨.str d.shown, H, I.kept (t' := tk) k, ⟨u, rfl⟩, q⟩) sz
    rcases ap _ hm with ⟨o, ho, hc⟩ | z
    · obtain ⟨o2, e2, n2⟩ := hs
      have z := (I.kIn _ _ e2).symm.trans ho
      cases z
      exact n2 hc
    · simp at z
end
end K11
end

section
set_option maxHeartbeats 4000000
/-! what kind of value it is -/
namespace K11
open PySem PySem.Spec PyProof.Rows L2
def tyN : PyData → String
  | .none => "NoneType"
  | .bool _ => "bool"
  | .int _ => "int"
  | .str _ => "str"
  | .list _ => "list"
  | .tuple _ => "tuple"
  | .dict _ => "dict"
theorem dx_ty {K : PySem.W.Frag} {H : Hp} {v : V} {d : PyData} (h : Dx H v d) : TyX K H v (.type (tyN d)) := by
  cases h with
  | non => exact .base .non
  | bl b => exact .base (.bl b)
  | int i => exact .base (.int i)
  | str x => exact .base (.str x)
  | lst e _ => exact .base (.lst e)
  | tup e _ => exact .base (.tup e)
  | dic e _ => exact .base (.dK e)
def isI : PyData → Bool
  | .int _ => true
  | .bool _ => true
  | _ => false
def isB : PyData → Bool
  | .bool _ => true
  | _ => false
def isS : PyData → Bool
  | .str _ => true
  | _ => false
theorem kit_i (d : PyData) : kitB (tyN d) "int" = some (isI d) :=
  match d with
  | .none => (by decide +kernel : kitB "NoneType" "int" = some false)
  | .bool _ => (by decide +kernel : kitB "bool" "int" = some true)
  | .int _ => (by decide +kernel : kitB "int" "int" = some true)
  | .str _ => (by decide +kernel : kitB "str" "int" = some false)
  | .list _ => (by decide +kernel : kitB "list" "int" = some false)
  | .tuple _ => (by decide +kernel : kitB "tuple" "int" = some false)
  | .dict _ => (by decide +kernel : kitB "dict" "int" = some false)
theorem kit_b (d : PyData) : kitB (tyN d) "bool" = some (isB d) :=
  match d with
  | .none => (by decide +kernel : kitB "NoneType" "bool" = some false)
  | .bool _ => (by decide +kernel : kitB "bool" "bool" = some true)
  | .int _ => (by decide +kernel : kitB "int" "bool" = some false)
  | .str _ => (by decide +kernel : kitB "str" "bool" = some false)
  | .list _ => (by decide +kernel : kitB "list" "bool" = some false)
  | .tuple _ => (by decide +kernel : kitB "tuple" "bool" = some false)
  | .dict _ => (by decide +kernel : kitB "dict" "bool" = some false)
theorem kit_s (d : PyData) : kitB (tyN d) "str" = some (isS d) :=
  match d with
  | .none => (by decide +kernel : kitB "NoneType" "str" = some false)
  | .bool _ => (by decide +kernel : kitB "bool" "str" = some false)
  | .int _ => (by decide +kernel : kitB "int" "str" = some false)
  | .str _ => (by decide +kernel : kitB "str" "str" = some true)
  | .list _ => (by decide +kernel : kitB "list" "str" = some false)
  | .tuple _ => (by decide +kernel : kitB "tuple" "str" = some false)
  | .dict _ => (by decide +kernel : kitB "dict" "str" = some false)
/-- a whole number; a count; a text of signs -/
def wholeD : PyData → Bool := fun d => isI d && !isB d
def countD : PyData → Bool
  | .int i => decide (0 ≤ i)
  | _ => false
def sgn (c : Nat) : Bool := decide (c ∈ (PySem.Str.ofString "abcd").cps.toList)
def wordD : PyData → Bool
  | .str z => z.cps.toList.all sgn
  | _ => false
/-- what is asked of a thing -/
structure Tame (d : PyData) : Prop where
  len : ∀ z, d = .str z → z.length ≤ 5000 ∧ ∀ c ∈ z.cps.toList, c < 1114112
  sh : d.showable = true
  dp : d.depth ≤ 10
  sz : d.shown.length ≤ 60000
def spB (f : PyData → Bool) : Sp := fun vs H Q _ => ∃ (v : V) (d : PyData), vs = [v] ∧ Dx H v d ∧ Tame d ∧ ∀ H', Same H H' → Q (.bl (f d)) H'
theorem take_snoc {α : Type} {l : List α} {i : Nat} {x : α} (h : l[i]? = some x) : l.take (i + 1) = l.take i ++ [x] := by
  rw [List.take_add_one, h]; rfl
theorem Same.refl {H : Hp} : Same H H := fun _ _ e => e
section
variable {P : Program} {w : World} {K : PySem.W.Frag} {mg : Str → Option Value} {base : Heap} {ad : Str → Addr} {fd : Str → FuncData}
theorem scIsInteger : FnScope ["value"] ["value"] (defScope sIsInteger) := ⟨rfl, rfl, rfl, by decide +kernel, rfl, by decide +kernel, by decide +kernel⟩
theorem ok_is_integer (X : Tx K mg ad fd) : FnOk P w K mg base CX0 1 (ad "is_integer") (fd "is_integer") ["value"] (spB wholeD) := by
  refine X.F_is_integer.ok scIsInteger (fun vs H Q E h => ?_) (fun cdv A outer s H vs Q E hr h => ?_)
  · obtain ⟨v, d, rfl, _⟩ := h
    rfl
  · obtain ⟨v, d, rfl, hd, ht, q⟩ := h
    refine ⟨_, (pss_one (ps_ret (by exact (pe_and (pe_callB call_isi (by rfl) X.m_isinstance (by decide +kernel) (pa_cons (pv 0) (pa_cons (pe_bltn (v := .ty "int") (by rfl) X.m_int (by decide +kernel) rfl) pa_nil))) (pe_one (pe_not (pe_callB call_isi (by rfl) X.m_isinstance (by decide +kernel) (pa_cons (pv 0) (pa_cons (pe_bltn (v := .ty "bool") (by rfl) X.m_bool (by decide +kernel) rfl) pa_nil))))))))), ?_⟩
    refine ⟨v, rfl, v, .ty "int", _, _, _, rfl, .ty _, dx_ty hd, kit_ty (kit_i d), _, rfl, ?_⟩
    have q' := q H Same.refl
    cases e : isI d with
    | false =>
      rw [show wholeD d = false by unfold wholeD; rw [e]; rfl] at q'
      exact q'
    | true =>
      refine ⟨v, rfl, v, .ty "bool", _, _, _, rfl, .ty _, dx_ty hd, kit_ty (kit_b d), _, rfl, ?_⟩
      rw [show wholeD d = !isB d by unfold wholeD; rw [e]; rfl] at q'
      exact q'
theorem scIsWhole : FnScope ["_law_thing"] ["_law_thing"] (defScope sIsWhole) := ⟨rfl, rfl, rfl, by decide +kernel, rfl, by decide +kernel, by decide +kernel⟩
theorem ok_whole (X : Tx K mg ad fd) : FnOk P w K mg base CX0 1 (ad "_law_is_whole") (fd "_law_is_whole") ["_law_thing"] (spB wholeD) := by
  refine X.F__law_is_whole.ok scIsWhole (fun vs H Q E h => ?_) (fun cdv A outer s H vs Q E hr h => ?_)
  · obtain ⟨v, d, rfl, _⟩ := h
    rfl
  · obtain ⟨v, d, rfl, hd, ht, q⟩ := h
    refine ⟨_, (pss_one (ps_ret (by exact (pe_and (pe_callB call_isi (by rfl) X.m_isinstance (by decide +kernel) (pa_cons (pv 0) (pa_cons (pe_bltn (v := .ty "int") (by rfl) X.m_int (by decide +kernel) rfl) pa_nil))) (pe_one (pe_not (pe_callB call_isi (by rfl) X.m_isinstance (by decide +kernel) (pa_cons (pv 0) (pa_cons (pe_bltn (v := .ty "bool") (by rfl) X.m_bool (by decide +kernel) rfl) pa_nil))))))))), ?_⟩
    refine ⟨v, rfl, v, .ty "int", _, _, _, rfl, .ty _, dx_ty hd, kit_ty (kit_i d), _, rfl, ?_⟩
    have q' := q H Same.refl
    cases e : isI d with
    | false =>
      rw [show wholeD d = false by unfold wholeD; rw [e]; rfl] at q'
      exact q'
    | true =>
      refine ⟨v, rfl, v, .ty "bool", _, _, _, rfl, .ty _, dx_ty hd, kit_ty (kit_b d), _, rfl, ?_⟩
      rw [show wholeD d = !isB d by unfold wholeD; rw [e]; rfl] at q'
      exact q'
theorem scIsCount : FnScope ["value"] ["value"] (defScope sIsCount) := ⟨rfl, rfl, rfl, by decide +kernel, rfl, by decide +kernel, by decide +kernel⟩
theorem ok_is_count (X : Tx K mg ad fd) : FnOk P w K mg base CX0 2 (ad "is_count") (fd "is_count") ["value"] (spB countD) := by
  have G_is_integer : FnOk P w K mg base CX0 1 (ad "is_integer") (fd "is_integer") ["value"] (spB wholeD) := ok_is_integer X
  refine X.F_is_count.ok scIsCount (fun vs H Q E h => ?_) (fun cdv A outer s H vs Q E hr h => ?_)
  · obtain ⟨v, d, rfl, _⟩ := h
    rfl
  · obtain ⟨v, d, rfl, hd, ht, q⟩ := h
    have HR_is_integer := hr
    refine ⟨_, (pss_one (ps_ret (by exact (pe_and (pe_call G_is_integer HR_is_integer (by rfl) X.g_is_integer X.F_is_integer.kp X.b_is_integer .nil pass0 (pa_cons (pv 0) pa_nil)) (pe_one (pe_cmpR op_ge (pv 0) pe_int (nomark _))))))), ?_⟩
    refine ⟨v, rfl, v, d, rfl, hd, ht, fun H1 s1 => ⟨_, rfl, ?_⟩⟩
    have q' := q H1 s1
    cases hd with
    | int i =>
      refine ⟨.int i, rfl, i, 0, rfl, rfl, ?_⟩
      exact q'
    | non => exact q'
    | bl b => exact q'
    | str x => exact q'
    | lst e _ => exact q'
    | tup e _ => exact q'
    | dic e _ => exact q'
theorem scIsRow : FnScope ["value", "sign"] ["value"] (defScope sIsRow) := ⟨rfl, rfl, rfl, by decide +kernel, rfl, by decide +kernel, by decide +kernel⟩
theorem ok_is_row (X : Tx K mg ad fd) : FnOk P w K mg base CX0 1 (ad "is_row") (fd "is_row") ["value"] (spB wordD) := by
  obtain ⟨tA, GLOB_ALL_SIGNS⟩ := X.g_ALL_SIGNS
  refine X.F_is_row.ok scIsRow (fun vs H Q E h => ?_) (fun cdv A outer s H vs Q E hr h => ?_)
  · obtain ⟨v, d, rfl, _⟩ := h
    rfl
  · obtain ⟨v, d, rfl, hd, ht, q⟩ := h
    refine ⟨_, (pss_one (ps_ret (by exact (pe_and (pe_callB call_isi (by rfl) X.m_isinstance (by decide +kernel) (pa_cons (pv 0) (pa_cons (pe_bltn (v := .ty "str") (by rfl) X.m_str (by decide +kernel) rfl) pa_nil))) (pe_one (pe_callB (cr_all rfl) (by rfl) X.m_all (by decide +kernel) (pa_cons (pe_lc (own := [("sign", 1)]) (g := gName 1) rfl scIsRow.nd (pi_str (pv 0)) (blkOk_by (own := [("sign", 1)]) (N := ["value", "sign"]) (sc := defScope sIsRow) (by decide +kernel)) (fun _ _ _ _ _ => pg_name (i := 1) scIsRow.nd rfl (Or.inl rfl)) (fun _ _ _ _ _ => pts_nil) (fun _ _ _ _ _ => (pe_cmpR op_in_sign (pv 1) (pe_glob (v := .str "abcd") (by rfl) GLOB_ALL_SIGNS ⟨_, rfl⟩) rfl))) pa_nil))))))), ?_⟩
    refine ⟨v, rfl, v, .ty "str", _, _, _, rfl, .ty _, dx_ty hd, kit_ty (kit_s d), _, rfl, ?_⟩
    cases hd with
    | str z =>
      obtain ⟨hz, hcp⟩ := ht.len z rfl
      refine ⟨.str z, rfl, z, rfl, fun D hD => ?_⟩
      refine lc_it (w := walk_str (z := z)) (fun i H' => i ≤ z.cps.size ∧ Same H H' ∧ H' D = some (.lst (((z.cps.toList.take i).map sgn).map V.bl))) ⟨Nat.zero_le _, Same.new hD, upd_same⟩ (fun _ _ _ _ => True.intro) (fun i x H' H2 hi hP hy => ?_) (fun H' hP => ?_)
      · obtain ⟨hi', hs, eD⟩ := hP
        obtain ⟨rfl, c, hc, rfl⟩ := hy
        have hc' : z.cps.toList[i]? = some c := by rw [Array.getElem?_toList]; exact hc
        refine ⟨rfl, .str ⟨#[c]⟩, rfl, c, "abcd", rfl, rfl, _, eD, ?_, by omega, ?_, ?_⟩
        · rw [List.length_map, List.length_map, List.length_take, sizeLine_eq]
          have : z.length = z.cps.size := rfl
          omega
        · intro b o e
          rw [upd_ne (ne_of_none e hD)]
          exact hs b o e
        · rw [upd_same, take_snoc hc', List.map_append, List.map_append]
          rfl
      · obtain ⟨_, hs, eD⟩ := hP
        refine ⟨D, (z.cps.toList.take z.cps.size).map sgn, rfl, SqL.of eD, ?_⟩
        rw [show z.cps.toList.take z.cps.size = z.cps.toList from List.take_of_length_le (by simp)]
        have q' := q H' hs
        rw [show wordD (.str z) = (z.cps.toList.map sgn).all id by simp [wordD, List.all_map]] at q'
        exact q'
    | non => exact q H Same.refl
    | bl b => exact q H Same.refl
    | int i => exact q H Same.refl
    | lst e _ => exact q H Same.refl
    | tup e _ => exact q H Same.refl
    | dic e _ => exact q H Same.refl
theorem scIsWord : FnScope ["_law_thing", "_law_letter"] ["_law_thing"] (defScope sIsWord) := ⟨rfl, rfl, rfl, by decide +kernel, rfl, by decide +kernel, by decide +kernel⟩
theorem dp_strs {K : PySem.W.Frag} {H : Hp} : ∀ (ys : List Str), DpAll K H (ys.map V.str) (ys.map PyData.str)
  | [] => .nil
  | y :: ys => .cons (.str y) (dp_strs ys)
theorem eqv_nil (xs : List PyData) : PyData.eqv (.list xs) (.list []) = xs.isEmpty := by
  cases xs with
  | nil => simp [PyData.eqv, PyData.eqvAll]
  | cons a r => simp [PyData.eqv, PyData.eqvAll]
theorem shaped_strs (ys : List Str) (hy : ∀ y ∈ ys, PyData.strOk y = true) : SeqAt.shaped (.list (ys.map PyData.str)) = true := by
  unfold SeqAt.shaped
  have h1 : ∀ ys : List Str, (∀ y ∈ ys, PyData.strOk y = true) → PyData.canLayAll0 (ys.map PyData.str) = true := by
    intro ys
    induction ys with
    | nil => intro _; rfl
    | cons a r ih =>
      intro h
      simp [PyData.canLayAll0, PyData.canLay0, ih (fun y hy => h y (List.mem_cons_of_mem _ hy)), h a List.mem_cons_self]
  have h2 : ∀ ys : List Str, PyData.depthAll (ys.map PyData.str) = 0 := by
    intro ys
    induction ys with
    | nil => rfl
    | cons a r ih => simp [PyData.depthAll, PyData.depth, ih]
  rw [Bool.and_eq_true]
  refine ⟨by simp [PyData.canLay0, h1 ys hy], decide_eq_true ?_⟩
  show PyData.depthAll _ + 1 ≤ 64
  rw [h2]; decide
theorem ok_is_word (X : Tx K mg ad fd) : FnOk P w K mg base CX0 1 (ad "_law_is_word") (fd "_law_is_word") ["_law_thing"] (spB wordD) := by
  refine X.F__law_is_word.ok scIsWord (fun vs H Q E h => ?_) (fun cdv A outer s H vs Q E hr h => ?_)
  · obtain ⟨v, d, rfl, _⟩ := h
    rfl
  · obtain ⟨v, d, rfl, hd, ht, q⟩ := h
    have hu64 := hr.units
    refine ⟨_, (pss_one (ps_ret (by exact (pe_and (pe_callB call_isi (by rfl) X.m_isinstance (by decide +kernel) (pa_cons (pv 0) (pa_cons (pe_bltn (v := .ty "str") (by rfl) X.m_str (by decide +kernel) rfl) pa_nil))) (pe_one (pe_cmpR (op_eqD hu64) (pe_lc (own := [("_law_letter", 1)]) (g := gName 1) rfl scIsWord.nd (pi_str (pv 0)) (blkOk_by (own := [("_law_letter", 1)]) (N := ["_law_thing", "_law_letter"]) (sc := defScope sIsWord) (by decide +kernel)) (fun _ _ _ _ _ => pg_name (i := 1) scIsWord.nd rfl (Or.inl rfl)) (fun _ _ _ _ _ => pts_one (pt_cmpR op_notIn_sign (pv 1) pe_str rfl)) (fun _ _ _ _ _ => (pv 1))) (pe_lst pa_nil) (nomark _))))))), ?_⟩
    refine ⟨v, rfl, v, .ty "str", _, _, _, rfl, .ty _, dx_ty hd, kit_ty (kit_s d), _, rfl, ?_⟩
    cases hd with
    | str z =>
      obtain ⟨hz, hcp⟩ := ht.len z rfl
      refine ⟨.str z, rfl, z, rfl, fun D hD => ?_⟩
      refine lc_it (w := walk_str (z := z)) (fun i H' => i ≤ z.cps.size ∧ Same H H' ∧ H' D = some (.lst ((((z.cps.toList.take i).filter (fun c => !sgn c)).map fun c => (⟨#[c]⟩ : Str)).map V.str))) ⟨Nat.zero_le _, Same.new hD, upd_same⟩ (fun _ _ _ _ => True.intro) (fun i x H' H2 hi hP hy => ?_) (fun H' hP => ?_)
      · obtain ⟨hi', hs, eD⟩ := hP
        obtain ⟨rfl, c, hc, rfl⟩ := hy
        have hc' : z.cps.toList[i]? = some c := by rw [Array.getElem?_toList]; exact hc
        refine ⟨rfl, .str ⟨#[c]⟩, rfl, c, "abcd", rfl, rfl, _, rfl, ?_⟩
        refine ite2 (fun e => ?_) (fun e => ?_)
        · have e' : (!sgn c) = true := e
          refine ⟨_, rfl, _, eD, ?_, by omega, ?_, ?_⟩
          · rw [List.length_map, List.length_map, sizeLine_eq]
            have h1 := List.length_filter_le (fun c => !sgn c) (z.cps.toList.take i)
            rw [List.length_take] at h1
            have : z.length = z.cps.size := rfl
            omega
          · intro b o e
            rw [upd_ne (ne_of_none e hD)]
            exact hs b o e
          · rw [upd_same, take_snoc hc', List.filter_append, List.filter_cons_of_pos (by exact e'), List.map_append, List.map_append]
            rfl
        · have e' : ¬ (!sgn c) = true := e
          refine ⟨by omega, hs, ?_⟩
          rw [eD, take_snoc hc', List.filter_append, List.filter_cons_of_neg (by exact e')]
          simp
      · obtain ⟨_, hs, eD⟩ := hP
        rw [show z.cps.toList.take z.cps.size = z.cps.toList from List.take_of_length_le (by simp)] at eD
        refine ⟨Nat.zero_le _, fun L hL => ⟨.list ((((z.cps.toList.filter (fun c => !sgn c)).map fun c => (⟨#[c]⟩ : Str))).map PyData.str), .list [], ?_, .lst (SqL.of upd_same) .nil, ?_, by decide +kernel, ?_⟩⟩
        · exact .lst (SqL.of (by rw [upd_ne (ne_of_none eD hL)]; exact eD)) (dp_strs _)
        · refine shaped_strs _ fun y hy => ?_
          obtain ⟨c, hc, rfl⟩ := List.mem_map.mp hy
          have hc2 := hcp c (List.mem_filter.mp hc).1
          show (#[c] : Array Nat).all (· < 0x110000) = true
          simp [hc2]
        · have q' := q _ (fun b o e => (by rw [upd_ne (ne_of_none (hs b o e) hL)]; exact hs b o e : (upd H' L (.lst [])) b = some o))
          rw [eqv_nil]
          have e2 : wordD (.str z) = (z.cps.toList.filter (fun c => !sgn c)).isEmpty := by
            show z.cps.toList.all sgn = _
            generalize z.cps.toList = l
            induction l with
            | nil => rfl
            | cons a r ih =>
              rw [List.all_cons, ih]
              cases ea : sgn a with
              | true => rw [List.filter_cons_of_neg (by rw [ea]; decide)]; rfl
              | false => rw [List.filter_cons_of_pos (by rw [ea]; decide)]; rfl
          rw [e2] at q'
          rw [List.isEmpty_map, List.isEmpty_map]
          exact q'
    | non => exact q H Same.refl
    | bl b => exact q H Same.refl
    | int i => exact q H Same.refl
    | lst e _ => exact q H Same.refl
    | tup e _ => exact q H Same.refl
    | dic e _ => exact q H Same.refl
end
end K11
end

section
set_option maxHeartbeats 4000000
/-! own exceptions: isinstance, fields, as values -/
namespace K11
open PySem PySem.Spec PyProof.Rows L2
section
open PySem.W PySem.Calls
variable {prog : Program} {w : World} {A : Around} {E : Value → Shared → Prop} {s : Shared} {K : Frag} {x D : Addr} {ox : Obj} {od : Option Obj}
/-- what the class D says of its instances -/
structure EC (K : Frag) (D : Addr) : Prop where
  ga : findIn K (.ref D) "__getattribute__" = some (some (.builtin "BaseException.__getattribute__"))
  gg : findIn K (.ref D) "__getattr__" = some none
  be : subIn K (.ref D) (.type "BaseException") = some true
  hd : hasDictIn K D = true
  cl : findIn K (.ref D) "__class__" = some (some (.builtin "object.__class__"))
  gt : specialIn K (.builtin "object.__class__") "__get__" = some (some (.builtin "getset_descriptor.__get__"))
  tk : takesIn K (.builtin "object.__class__") = some true
  ob : mroIn K D (.type "object") = some true
theorem EC.is (F : EC K D) : (clsIn K D).isSome = true := by
  obtain ⟨cd, h, _⟩ := any_some F.hd
  rw [h]; rfl
theorem EC.kit (F : EC K D) : KitX K (.ref x) (.ref D) (fun h => InstAt h x ox D od) := kitx_exc F.is F.ga F.gg F.be F.cl F.gt F.tk F.ob
end
end K11
end

section
set_option maxHeartbeats 4000000
/-! own exceptions made by keywords, over any base -/
namespace K11
open PySem PySem.Spec PyProof.Rows L2
/-- own classes, then the base's own row -/
def refsTo (tail : List Value) : List Value → Bool
  | .ref _ :: r => refsTo tail r
  | l => l == tail
theorem refsTo_cases {tail : List Value} : ∀ l : List Value, refsTo tail l = true → (∃ c r, l = .ref c :: r ∧ refsTo tail r = true) ∨ l = tail := by
  intro l h
  match l, h with
  | [], h => exact .inr (beq_iff_eq.mp h)
  | .ref c :: r, h => exact .inl ⟨c, r, rfl, h⟩
  | .none :: _, h => exact .inr (beq_iff_eq.mp h)
  | .ellipsis :: _, h => exact .inr (beq_iff_eq.mp h)
  | .notImplemented :: _, h => exact .inr (beq_iff_eq.mp h)
  | .bool _ :: _, h => exact .inr (beq_iff_eq.mp h)
  | .int _ _ :: _, h => exact .inr (beq_iff_eq.mp h)
  | .float _ _ :: _, h => exact .inr (beq_iff_eq.mp h)
  | .str _ _ :: _, h => exact .inr (beq_iff_eq.mp h)
  | .bytes _ _ :: _, h => exact .inr (beq_iff_eq.mp h)
  | .type _ :: _, h => exact .inr (beq_iff_eq.mp h)
  | .builtin _ :: _, h => exact .inr (beq_iff_eq.mp h)
theorem refsTo_has {tail : List Value} (X : String) : ∀ l : List Value, refsTo tail l = true → l.contains (.type X) = tail.contains (.type X) := by
  intro l
  induction l with
  | nil => intro h; rw [show ([] : List Value) = tail from beq_iff_eq.mp h]
  | cons a r ih =>
    intro h
    rcases refsTo_cases (a :: r) h with ⟨c, r', e, h2⟩ | e
    · obtain ⟨rfl, rfl⟩ := List.cons.inj e
      rw [List.contains_cons, ih h2]; rfl
    · rw [e]
theorem refsTo_pass {tail : List Value} (self : Value) (hp : refuseLoop self "__setattr__" tail = pure ()) : ∀ l : List Value, refsTo tail l = true → refuseLoop self "__setattr__" l = pure () := by
  intro l
  induction l with
  | nil => intro h; rw [show ([] : List Value) = tail from beq_iff_eq.mp h]; exact hp
  | cons a r ih =>
    intro h
    rcases refsTo_cases (a :: r) h with ⟨c, r', e, h2⟩ | e
    · obtain ⟨rfl, rfl⟩ := List.cons.inj e
      rw [refuseLoop_ref]; exact ih h2
    · rw [e]; exact hp
section
open PySem.HandSPX
variable {M : Model} {prog : Program} {w : World} {A : Around} {E : Value → Shared → Prop} {R : Result → Shared → Prop} {h : Heap} {g : Array GenState} {d : Drawn} {t : Nat} {os : OsState}
variable {nm q : Str} {C N : Addr} {bs bm bmB : List Value} {hdct : Bool} {sn : List Str} {sub : List Value} {ab : Bool} {col : Option Bool} {dd : Option Addr} {k0 k1 k2 k3 k5 : Option Value} {B newId initId : String} {rest : List Value} {kw : List (Str × Value)}
theorem kw_check_new (F : ExcBaseFacts B newId initId bmB) (same : ∀ X : String, bm.contains (.type X) = bmB.contains (.type X)) {Q : Unit → Shared → Prop} (at_C : h.get? C = some (excClassObj nm q C N bs bm hdct sn sub ab col dd k0 k1 k2 k3 k5 newId)) (ok : Q () ⟨h, g, d, t, os⟩) :
    wpAny M A (checkBuiltinCall newId ⟨.ref C :: rest, kw⟩) Q E ⟨h, g, d, t, os⟩ := by
  have has : (Value.ref C :: bm).contains (.type B) = true := by rw [List.contains_cons, same, F.hasB, Bool.or_true]
  have ns := F.noStar
  simp only [checkBuiltinCall, F.newKind, F.newSplit, F.newRow]
  repeat (first | refine wpAny_loadPart_at at_C ?_ | (refine wpAny_isSubtype_exc at_C ?_; rw [has]) | refine wpAny_staticBase_exc at_C ?_ | refine wpAny_madeBy_exc at_C ?_ | simp only [bne_self_eq_false, Bool.false_eq_true, if_false] | wp_step)
  exact ok
/-- the object that is born: of the class C, its arguments a new tuple -/
theorem kw_born (F : ExcBaseFacts B newId initId bmB) (same : ∀ X : String, bm.contains (.type X) = bmB.contains (.type X)) (at_C : h.get? C = some (excClassObj nm q C N bs bm hdct sn sub ab col dd k0 k1 k2 k3 k5 newId)) (small : rest.length ≤ sizeLine)
    (ok : R (.ok (.ret (.ref (h.objs.size + 1)))) ⟨(h.push (W.kdv_tup rest)).push (excO C h.objs.size), g, d, t, os⟩) :
    codeAny (model prog w) A (.builtin newId ⟨.ref C :: rest, kw⟩) R ⟨h, g, d, t, os⟩ := by
  have fin := F.ends
  have b1 : (Value.ref C :: bm).contains (.type B) = true := by rw [List.contains_cons, same, F.hasB, Bool.or_true]
  have b2 : (Value.ref C :: bm).contains (.type "AttributeError") = false := by rw [List.contains_cons, same, F.noAttr]; rfl
  have b3 : (Value.ref C :: bm).contains (.type "NameError") = false := by rw [List.contains_cons, same, F.noName]; rfl
  refine codeAny_builtinAt F.entry ?_; unfold Builtin.«BaseException.__new__»
  refine PySem.wpAt_bind ?_; show PySem.wpAt _ _ _ (stack >>= _) _ _ _
  refine PySem.wpAt_bind (PySem.wpAt_stack fun p below => PySem.wpAt_of_wpAny ?_); wp_walk
  refine PySem.wpAt_of_wpAny ?_; rw [F.owner]
  repeat (first | with_reducible refine wpAny_madeHere_exc F.canon at_C ?_ | with_reducible refine wpAny_loadPart_at at_C ?_ | (with_reducible refine wpAny_isSubtype_exc at_C ?_; first | rw [b1] | rw [b2] | rw [b3]) | wp_step)
  show R _ _; rw [Heap.size_push]
  exact ok
theorem kw_typed (F : ExcBaseFacts B newId initId bmB) (same : ∀ X : String, bm.contains (.type X) = bmB.contains (.type X)) {fI : Addr} {Q : Fin → Shared → Prop} (at_C : h.get? C = some (excClassObj nm q C N bs bm hdct sn sub ab col dd k0 k1 k2 k3 k5 newId)) (small : rest.length ≤ sizeLine)
    (init : W.Looks (model prog w) h (typeLookup (.ref C) "__init__") (some (.ref fI))) (bound : ∀ self, W.Looks (model prog w) h (bindSpecial (.ref fI) self) (.ref fI, [self]))
    (ok : codeAny (model prog w) A (.call (.ref fI) ⟨.ref (h.objs.size + 1) :: rest, kw⟩) (fun r s' => match r with | .ok (.ret v) => v = .none ∧ Q (.done (.ret (.ref (h.objs.size + 1)))) s' | .ok _ => False | .error e => E e s') ⟨(h.push (W.kdv_tup rest)).push (excO C h.objs.size), g, d, t, os⟩) :
    wpAny (model prog w) A (Builtin.«type.__call__» ⟨.ref C :: rest, kw⟩) Q E ⟨h, g, d, t, os⟩ := by
  repeat (first | with_reducible refine wpAny_loadPart_at at_C ?_ | with_reducible refine wpAny_madeBy_exc at_C ?_ | wp_step)
  refine codeAny_call_builtin_code (Code.quiet_builtin _ F.quiet) (kw_check_new F same at_C (kw_born F same at_C small ?_))
  show wpAny _ _ _ _ _ _
  have old : ∀ b o, h.get? b = some o → ((h.push (W.kdv_tup rest)).push (excO C h.objs.size)).get? b = some o := fun b o e => Heap.get?_push_of_some _ (Heap.get?_push_of_some _ e)
  have new : ((h.push (W.kdv_tup rest)).push (excO C h.objs.size)).get? (h.objs.size + 1) = some (excO C h.objs.size) := by heap_get
  have at_C2 := old _ _ at_C
  have self_has : (Value.ref C :: bm).contains (.ref C) = true := by simp
  have bd := (bound (.ref (h.objs.size + 1))).keeps old
  unfold isInstance
  repeat (first | with_reducible refine wpAny_loadPart_at new ?_ | (with_reducible refine wpAny_isSubtype_exc at_C2 ?_; rw [self_has]) | wp_step)
  show wpAny _ _ (typeLookup (.ref C) _) _ _ _
  refine (init.keeps old).at (wpAny_holding (wpAny_bind (bd.at (wpAny_bind (wpAny_call (codeAny_mono ok fun r s' z => ?_))))))
  rcases r with e | (v | _ | _ | _) <;> first | exact z | exact z.elim | skip
  obtain ⟨rfl, z⟩ := z
  first
    | exact wpAny_pure (wpAny_pure z)
    | (wp_walk; exact z)
theorem kw_check_call {Q : Unit → Shared → Prop} (at_C : h.get? C = some (excClassObj nm q C N bs bm hdct sn sub ab col dd k0 k1 k2 k3 k5 newId)) (ok : Q () ⟨h, g, d, t, os⟩) : wpAny M A (checkBuiltinCall "type.__call__" ⟨.ref C :: rest, kw⟩) Q E ⟨h, g, d, t, os⟩ := by
  have f3 := tc_sub
  have ty : (⟨h, g, d, t, os⟩ : Shared).TypeIs (.ref C) "type" := ⟨_, at_C, rfl⟩
  simp only [checkBuiltinCall, tc_kind, tc_split]
  repeat (first | with_reducible assumption | with_reducible refine wpAny_loadPart_at at_C ?_ | wp_step)
theorem kw_called (F : ExcBaseFacts B newId initId bmB) (same : ∀ X : String, bm.contains (.type X) = bmB.contains (.type X)) {fI : Addr} (at_C : h.get? C = some (excClassObj nm q C N bs bm hdct sn sub ab col dd k0 k1 k2 k3 k5 newId)) (small : rest.length ≤ sizeLine)
    (init : W.Looks (model prog w) h (typeLookup (.ref C) "__init__") (some (.ref fI))) (bound : ∀ self, W.Looks (model prog w) h (bindSpecial (.ref fI) self) (.ref fI, [self]))
    (ok : codeAny (model prog w) (A.under (.builtin "type.__call__" ⟨.ref C :: rest, kw⟩)) (.call (.ref fI) ⟨.ref (h.objs.size + 1) :: rest, kw⟩) (W.InitBack (h.objs.size + 1) R) ⟨(h.push (W.kdv_tup rest)).push (excO C h.objs.size), g, d, t, os⟩) :
    codeAny (model prog w) A (.call (.ref C) ⟨rest, kw⟩) R ⟨h, g, d, t, os⟩ := by
  have f1 := tc_lookup
  have f2 := tc_bind (.ref C)
  have ty : (⟨h, g, d, t, os⟩ : Shared).TypeIs (.ref C) "type" := ⟨_, at_C, rfl⟩
  refine codeAny_of_tree ?_; show wpAny _ _ (callAny (.ref C) _) _ _ _
  repeat (any_goals (first | assumption | with_reducible refine wpAny_loadPart_at at_C ?_ | wp_step))
  refine ⟨rfl, codeAny_call_builtin_at (Code.quiet_builtin _ (by decide +kernel)) entry_typeCall (kw_check_call at_C (kw_typed F same at_C small init bound (codeAny_mono ok fun r s' z => ?_)))⟩
  rcases r with e | (v | _ | _ | _) <;> exact z
end
end K11
end

section
set_option maxHeartbeats 4000000
/-! own exceptions: fields stored, made, held as values -/
namespace K11
open PySem PySem.Spec PyProof.Rows L2
section
open PySem.W PySem.Calls PySem.HandSPX Builtin Builtin.ObjectAttr
variable {prog : Program} {w : World} {A : Around} {E : Value → Shared → Prop} {R : Result → Shared → Prop} {hp : Heap} {g : Array GenState} {d : Drawn} {t : Nat} {os : OsState} {K : Frag} {name : Str} {tk : Tok} {v : Value} {x C dx : Addr} {fv : Array Value} {cd : ClassData} {ox : Obj} {od : Option Obj}
theorem own_store (X : K.In hp) (I : InstAt hp x ox C od) (hcd : clsIn K C = some cd) (pass : refuseLoop (.ref x) "__setattr__" cd.mro = pure ()) (obj : mroIn K C (.type "object") = some true) (ha : findIn K (.ref C) name = some none)
    (ok : wpAny (model prog w) A.in1 (storeInOwnDict (.ref x) (.ref C) (.str name tk) name v false) (fun fin s' => match fin with | .done f => R (.ok f) s' | .again c' => c'.quiet = true ∧ codeAny (model prog w) A c' R s') (fun e s' => R (.error e) s') ⟨hp, g, d, t, os⟩) :
    codeAny (model prog w) A (.call (.builtin "object.__setattr__") ⟨[.ref x, .str name tk, v], []⟩) R ⟨hp, g, d, t, os⟩ := by
  have S := F.store_object
  have isobj : Looks (model prog w) hp (isInstance (.ref x) (.type "object")) true := I.type.andThen (looks_mroIn X obj)
  have row : Looks (model prog w) hp (mroOf (.ref C)) cd.mro := (looks_clsIn X hcd).andThen .now
  have takes : Looks (model prog w) hp (storeTaker? none) none := .now
  refine codeAny_call_builtin S.slot.plain S.entry (@check_slot (model prog w) _ _ ⟨hp, g, d, t, os⟩ "object.__setattr__" "object" "__setattr__" (.ref x) [.str name tk, v] [] _ S.kind S.split isobj (S.args (.ref x) (.str name tk) v) ?_)
  rw [osa_eq, refuse_eq]; refine wpAny_bind (wpAny_bind (I.type.at (wpAny_bind (row.at ?_)))); rw [pass]
  exact wpAny_pure (wpAny_bind (I.type.at (wpAny_bind ((looks_findIn X ha).at (wpAny_bind (takes.at ok))))))
/-- the first field -/
theorem own_new (X : K.In hp) (at_x : hp.get? x = some { cls := .ref C, data := .fields fv }) (hcd : clsIn K C = some cd) (pass : refuseLoop (.ref x) "__setattr__" cd.mro = pure ()) (obj : mroIn K C (.type "object") = some true) (hh : cd.hasDict = true) (ha : findIn K (.ref C) name = some none)
    (ok : ∀ h' tk' dx, (∀ b o, b ≠ x → hp.get? b = some o → h'.get? b = some o) → hp.objs.size ≤ dx → dx ≠ x → h'.get? x = some { cls := .ref C, dict := some dx, data := .fields fv } → h'.Ns1 dx (fun y => if y = name then some v else none) → R (.ok (.ret .none)) ⟨h', g, d, tk', os⟩) :
    codeAny (model prog w) A (.call (.builtin "object.__setattr__") ⟨[.ref x, .str name tk, v], []⟩) R ⟨hp, g, d, t, os⟩ := by
  have big : x ≠ hp.objs.size := Nat.ne_of_lt (Heap.lt_size at_x)
  have cl : Looks (model prog w) hp (classData C) cd := looks_clsIn X hcd
  refine own_store (od := none) X ⟨at_x, rfl, rfl, trivial⟩ hcd pass obj ha ?_
  obtain ⟨nm, bs, mro, ns, qn, hd, sn, sb, ab, col, del⟩ := cd
  dsimp only at hh; subst hh; unfold storeInOwnDict ownDictForStores
  repeat (first | with_reducible refine store_in_new ?_ ?_ | with_reducible refine wpAny_loadPart_at at_x ?_ | with_reducible refine cl.at ?_ | wp_step)
  · refine ⟨_, #[], _, (Heap.get?_update_ne _ _ _ _ big.symm).trans (Heap.get?_push_at rfl rfl), rfl, ?_, fun _ => rfl⟩
    exact fun e he => absurd he (by simp)
  · intro h' tk' names but
    have at_x2 : (hp.push { cls := .type "dict", data := .dict #[] }).get? x = some { cls := .ref C, data := .fields fv } := Heap.get?_push_of_some _ at_x
    exact ok h' tk' hp.objs.size (fun b o hb ho => (but.2 b (Nat.ne_of_lt (Heap.lt_size ho))).trans ((Heap.get?_update_ne _ _ _ _ hb).trans (Heap.get?_push_of_some _ ho))) (Nat.le_refl _) big.symm ((but.2 x big).trans (Heap.get?_update_self _ at_x2 rfl)) names
/-- a further field -/
theorem own_old {m0 : Str → Option Value} {nl : List Str} (X : K.In hp) (at_x : hp.get? x = some { cls := .ref C, dict := some dx, data := .fields fv }) (ns : hp.Ns1 dx m0) (wi : Within m0 nl) (few : nl.length ≤ 1000) (hcd : clsIn K C = some cd) (pass : refuseLoop (.ref x) "__setattr__" cd.mro = pure ())
    (obj : mroIn K C (.type "object") = some true) (hh : cd.hasDict = true) (ha : findIn K (.ref C) name = some none)
    (ok : ∀ h' tk', (∀ b o, b ≠ dx → hp.get? b = some o → h'.get? b = some o) → h'.Ns1 dx (fun y => if y = name then some v else m0 y) → R (.ok (.ret .none)) ⟨h', g, d, tk', os⟩) :
    codeAny (model prog w) A (.call (.builtin "object.__setattr__") ⟨[.ref x, .str name tk, v], []⟩) R ⟨hp, g, d, t, os⟩ := by
  obtain ⟨oD, _, _, at_d, _, _⟩ := ns.count wi
  have cl : Looks (model prog w) hp (classData C) cd := looks_clsIn X hcd
  refine own_store (od := some oD) X ⟨at_x, rfl, rfl, at_d⟩ hcd pass obj ha ?_
  obtain ⟨nm, bs, mro, ns', qn, hd, sn, sb, ab, col, del⟩ := cd
  dsimp only at hh; subst hh; unfold storeInOwnDict ownDictForStores
  repeat (first | with_reducible refine PySem.OEX.store_in_old ns wi few ?_ | with_reducible refine wpAny_loadPart_at at_x ?_ | with_reducible refine cl.at ?_ | wp_step)
  exact fun h' tk' names but => ok h' tk' (fun b o hb ho => (but.2 b hb).trans ho) names
end
end K11
end

section
set_option maxHeartbeats 4000000
/-! the makers of own exceptions: self.f = f -/
namespace K11
open PySem PySem.Spec PyProof.Rows L2
section
open PySem.W PySem.Calls PySem.HandSPX
/-- what the written part says of an own exception class at C, over a built-in base -/
structure XB (K : Frag) (C : Addr) (bmB : List Value) (newId : String) : Prop where
  cls : ∃ nm q N bs bm sn sub ab col dd k0 k1 k2 k3 k5, K.lookup C = some (excClassObj nm q C N bs bm true sn sub ab col dd k0 k1 k2 k3 k5 newId) ∧ refsTo bmB bm = true
  ec : EC K C
  sa : findIn K (.ref C) "__setattr__" = some (some (.builtin "object.__setattr__"))
  ty : typeIn K (.ref C) = some (.type "type")
  kp : keepIn K (.ref C) = true
/-- .. and of the def at fI that makes it -/
structure XI (K : Frag) (C fI : Addr) : Prop where
  ini : findIn K (.ref C) "__init__" = some (some (.ref fI))
  fty : typeIn K (.ref fI) = some (.type "function")
/-- the base -/
structure Bs (B newId initId : String) (bmB : List Value) : Prop where
  F : ExcBaseFacts B newId initId bmB
  pass : ∀ self, refuseLoop self "__setattr__" bmB = pure ()
/-- an exception as it is made: its own dict at d holds the fields m -/
structure Born (h h' : Heap) (e C d : Addr) (m : Str → Option Value) : Prop where
  keep : ∀ b o, h.get? b = some o → h'.get? b = some o
  new : h.objs.size ≤ e
  obj : ∃ t1 : Addr, h'.get? e = some ({ cls := .ref C, dict := some d, data := .fields #[.ref t1, .none, .none, .none, .bool false, .none] } : Obj)
  big : h.objs.size ≤ d
  ne : d ≠ e
  ns : h'.Ns1 d m
structure Made (h h' : Heap) (x C dx t1 : Addr) (m : Str → Option Value) : Prop where
  keep : ∀ b o, b ≠ x → h.get? b = some o → h'.get? b = some o
  obj : h'.get? x = some ({ cls := .ref C, dict := some dx, data := .fields #[.ref t1, .none, .none, .none, .bool false, .none] } : Obj)
  big : h.objs.size ≤ dx
  ne : dx ≠ x
  ns : h'.Ns1 dx m
variable {prog : Program} {w : World} {A : Around} {R : Result → Shared → Prop} {s : Shared} {K : Frag} {C fI : Addr} {bmB : List Value} {B newId initId : String}
theorem XB.data (T : XB K C bmB newId) (b : Bs B newId initId bmB) : ∃ cd, clsIn K C = some cd ∧ (∀ self, refuseLoop self "__setattr__" cd.mro = pure ()) ∧ cd.hasDict = true := by
  obtain ⟨nm, q, N, bs, bm, sn, sub, ab, col, dd, k0, k1, k2, k3, k5, hC, hbm⟩ := T.cls
  refine ⟨{ name := nm, bases := bs, mro := .ref C :: bm, ns := N, qualname := q, hasDict := true, slotNames := sn, subclasses := sub, abstract := ab, collection := col, hasDel := false }, by unfold clsIn; rw [hC] <;> rfl, fun self => ?_, rfl⟩
  exact refsTo_pass self (b.pass self) (.ref C :: bm) hbm
theorem ldN {M : Model} {s : Shared} {name : Str} {scope : Scope} {L a : Addr} {cd : Value} {m : Str → Option Value} {x : Str} {pos : Pos} {v : Value} {Q : Value → Shared → Prop} {A : Around} {E : Value → Shared → Prop} (hn : s.heap.Ns L m) (hv : m x = some v) (h : Q v s)
    (hk : scope.kind = .function := by rfl) (hl : (envOfC name scope L a cd).kindOf x = some .local := by rfl) (hd : (x == ("__debug__" : Str)) = false := by decide) : wpAny M A (eval (.Name x pos) (envOfC name scope L a cd)) Q E s := wpAny_Name (wpAny_loadName_local hk hl hn hv h) hd
/-- from the maker's run to the made exception; kw: how it is called -/
theorem born_of (T : XB K C bmB newId) (b : Bs B newId initId bmB) (I : XI K C fI) {rest : List Value} {kw : List (Str × Value)} {m : Str → Option Value} (X : K.In s.heap) (few : rest.length ≤ sizeLine)
    (run : ∀ (A' : Around) (R' : Result → Shared → Prop) (s1 : Shared) (x t1 : Addr), K.In s1.heap → s1.heap.NoLimit → s1.heap.get? x = some (excO C t1) → K.lookup x = none → A'.depth < recursionLimit → (∀ h' tk dx, Made s1.heap h' x C dx t1 m → R' (.ok (.ret .none)) { s1 with heap := h', toks := tk }) →
      codeAny (model prog w) A' (.call (.ref fI) ⟨.ref x :: rest, kw⟩) R' s1)
    (nl : s.heap.NoLimit) (room : A.depth + 1 < recursionLimit) (ok : ∀ h' tk e d, Born s.heap h' e C d m → R (.ok (.ret (.ref e))) { s with heap := h', toks := tk }) : codeAny (model prog w) A (.call (.ref C) ⟨rest, kw⟩) R s := by
  obtain ⟨nm, q, N, bs, bm, sn, sub, ab, col, dd, k0, k1, k2, k3, k5, hC, hbm⟩ := T.cls
  obtain ⟨hp, g, dr, tk, os⟩ := s
  have old : ∀ b o, hp.get? b = some o → ((hp.push (kdv_tup rest)).push (excO C hp.objs.size)).get? b = some o := fun b o e => Heap.get?_push_of_some _ (Heap.get?_push_of_some _ e)
  have got : ((hp.push (kdv_tup rest)).push (excO C hp.objs.size)).get? (hp.objs.size + 1) = some (excO C hp.objs.size) := by heap_get
  have none : K.lookup (hp.objs.size + 1) = none := by
    cases e : K.lookup (hp.objs.size + 1) with
    | none => rfl
    | some o =>
      have z : hp.get? (hp.objs.size + 1) = some o := X _ _ e
      exact absurd (Nat.lt_of_succ_lt (Heap.lt_size z)) (Nat.lt_irrefl _)
  refine kw_called b.F (fun Y => refsTo_has Y bm hbm) (X _ _ hC) few (looks_findIn X I.ini) (fun self => bind_fn X self I.fty) ?_
  refine run _ _ ⟨(hp.push (kdv_tup rest)).push (excO C hp.objs.size), g, dr, tk, os⟩ (hp.objs.size + 1) hp.objs.size (X.keeps old) (nl.keeps old) got none ?_ fun h' tk' dx M => ?_
  · first
      | exact room
      | (show (A.under (.builtin "type.__call__" ⟨.ref C :: rest, kw⟩)).depth < recursionLimit
         rw [make_depth]; exact room)
  · have grown : hp.objs.size + 1 + 1 ≤ dx := by
      have z := M.big
      rw [Heap.size_push, Heap.size_push] at z; exact z
    exact ⟨rfl, ok h' tk' (hp.objs.size + 1) dx ⟨fun b o e => M.keep b o (Nat.ne_of_lt (Nat.lt_succ_of_lt (Heap.lt_size e))) (old b o e), Nat.le_succ _, ⟨_, M.obj⟩, Nat.le_trans (Nat.le_trans (Nat.le_succ _) (Nat.le_succ _)) grown, M.ne, M.ns⟩⟩

def aI_value (p1 p2 : Pos) : Arguments := { posonlyargs := [], args := [{ arg := "self", annotation := none, pos := p1 }, { arg := "value", annotation := none, pos := p2 }], vararg := none, kwonlyargs := [], kw_defaults := [], kwarg := none, defaults := [] }
def bI_value (q1 q2 q3 q4 : Pos) : List Stmt := [.Assign [.Attribute (.Name "self" q1) "value" q2] (.Name "value" q3) q4]
def sI_value : Scope := { kind := .function, names := [(PySem.Str.ofString "self", .local), (PySem.Str.ofString "value", .local)], isGenerator := false, isCoroutine := false, more := [] }
structure XF_value (K : Frag) (C fI : Addr) : Prop where
  no : findIn K (.ref C) "value" = some none
  fn : ∃ (oc : Value) (od : Option Addr) (doc pm : Value) (an : Option Addr) (cdv ct : Value) (osl : Array (Option Value)) (qual : Str) (p1 p2 q1 q2 q3 q4 : Pos),
    K.lookup fI = some ⟨oc, od, .func (fnOf "__init__" qual (aI_value p1 p2) (bI_value q1 q2 q3 q4) sI_value .none .none doc pm an cdv ct), osl⟩ ∧ codeIn K cdv qual = true
theorem run_value (T : XB K C bmB newId) (b : Bs B newId initId bmB) (F : XF_value K C fI) {x t0 : Addr} {v : Value} {pos : List Value} {kw : List (Str × Value)} (form : (pos = [v] ∧ kw = []) ∨ (pos = [] ∧ kw = [(("value" : Str), v)])) (X : K.In s.heap) (nl : s.heap.NoLimit) (at_x : s.heap.get? x = some (excO C t0)) (out : K.lookup x = none) (room : A.depth < recursionLimit)
    (ok : ∀ h' tk dx, Made s.heap h' x C dx t0 (fun y => if y = "value" then some v else none) → R (.ok (.ret .none)) { s with heap := h', toks := tk }) : codeAny (model prog w) A (.call (.ref fI) ⟨.ref x :: pos, kw⟩) R s := by
  obtain ⟨oc, od, doc, pm, an, cdv, ct, osl, qual, p1, p2, q1, q2, q3, q4, ho, hcd⟩ := F.fn
  obtain ⟨cd, hcl, pass, hh⟩ := T.data b
  have bd : BindsTo s (fnOf "__init__" qual (aI_value p1 p2) (bI_value q1 q2 q3 q4) sI_value .none .none doc pm an cdv ct) ⟨.ref x :: pos, kw⟩ [("self", .ref x), ("value", v)] := by
    rcases form with ⟨rfl, rfl⟩ | ⟨rfl, rfl⟩
    · exact BindsTo.of_eq (by first | rfl | with_unfolding_all rfl)
    · exact BindsTo.of_eq (by first | rfl | with_unfolding_all rfl)
  refine Att.call_fn (binds := [("self", .ref x), ("value", v)]) X nl ho hcd room bd (by first | rfl | decide | with_unfolding_all rfl) (fun s₁ IC => ?_) rfl rfl rfl
  obtain ⟨h₁, tk₁, rfl⟩ := IC.toInCall.same
  have old : ∀ b o, s.heap.get? b = some o → h₁.get? b = some o := IC.toInCall.keep
  have nsL := IC.toInCall.ns
  have Y : K.In h₁ := X.keeps old
  show wpAny _ _ (execs _ _) _ _ _
  refine wpAny_execs_cons (plainObj_wpAny_Assign_Attribute (ldN (v := v) nsL (by first | rfl | with_unfolding_all rfl | kernel_rfl) (ldN (v := .ref x) nsL (by first | rfl | with_unfolding_all rfl | kernel_rfl) ?_)))
  refine set_plain Y (ox := excO C t0) (od := none) ⟨old _ _ at_x, rfl, rfl, trivial⟩ T.sa (own_new Y (old _ _ at_x) hcl (pass _) T.ec.ob hh F.no fun h₃ tk₃ dx k₃ dn dne at3 ns3 => ?_)
  show wpAny _ _ (execs _ _) _ _ _
  exact wpAny_execs_nil (ok h₃ tk₃ dx ⟨fun b o hb e => k₃ b o hb (old b o e), at3, Nat.le_of_lt (Nat.lt_of_lt_of_le nsL.lt dn), dne, ns3⟩)

def aI_position (p1 p2 : Pos) : Arguments := { posonlyargs := [], args := [{ arg := "self", annotation := none, pos := p1 }, { arg := "position", annotation := none, pos := p2 }], vararg := none, kwonlyargs := [], kw_defaults := [], kwarg := none, defaults := [] }
def bI_position (q1 q2 q3 q4 : Pos) : List Stmt := [.Assign [.Attribute (.Name "self" q1) "position" q2] (.Name "position" q3) q4]
def sI_position : Scope := { kind := .function, names := [(PySem.Str.ofString "self", .local), (PySem.Str.ofString "position", .local)], isGenerator := false, isCoroutine := false, more := [] }
structure XF_position (K : Frag) (C fI : Addr) : Prop where
  no : findIn K (.ref C) "position" = some none
  fn : ∃ (oc : Value) (od : Option Addr) (doc pm : Value) (an : Option Addr) (cdv ct : Value) (osl : Array (Option Value)) (qual : Str) (p1 p2 q1 q2 q3 q4 : Pos),
    K.lookup fI = some ⟨oc, od, .func (fnOf "__init__" qual (aI_position p1 p2) (bI_position q1 q2 q3 q4) sI_position .none .none doc pm an cdv ct), osl⟩ ∧ codeIn K cdv qual = true
theorem run_position (T : XB K C bmB newId) (b : Bs B newId initId bmB) (F : XF_position K C fI) {x t0 : Addr} {v : Value} {pos : List Value} {kw : List (Str × Value)} (form : (pos = [v] ∧ kw = []) ∨ (pos = [] ∧ kw = [(("position" : Str), v)])) (X : K.In s.heap) (nl : s.heap.NoLimit) (at_x : s.heap.get? x = some (excO C t0)) (out : K.lookup x = none) (room : A.depth < recursionLimit)
    (ok : ∀ h' tk dx, Made s.heap h' x C dx t0 (fun y => if y = "position" then some v else none) → R (.ok (.ret .none)) { s with heap := h', toks := tk }) : codeAny (model prog w) A (.call (.ref fI) ⟨.ref x :: pos, kw⟩) R s := by
  obtain ⟨oc, od, doc, pm, an, cdv, ct, osl, qual, p1, p2, q1, q2, q3, q4, ho, hcd⟩ := F.fn
  obtain ⟨cd, hcl, pass, hh⟩ := T.data b
  have bd : BindsTo s (fnOf "__init__" qual (aI_position p1 p2) (bI_position q1 q2 q3 q4) sI_position .none .none doc pm an cdv ct) ⟨.ref x :: pos, kw⟩ [("self", .ref x), ("position", v)] := by
    rcases form with ⟨rfl, rfl⟩ | ⟨rfl, rfl⟩
    · exact BindsTo.of_eq (by first | rfl | with_unfolding_all rfl)
    · exact BindsTo.of_eq (by first | rfl | with_unfolding_all rfl)
  refine Att.call_fn (binds := [("self", .ref x), ("position", v)]) X nl ho hcd room bd (by first | rfl | decide | with_unfolding_all rfl) (fun s₁ IC => ?_) rfl rfl rfl
  obtain ⟨h₁, tk₁, rfl⟩ := IC.toInCall.same
  have old : ∀ b o, s.heap.get? b = some o → h₁.get? b = some o := IC.toInCall.keep
  have nsL := IC.toInCall.ns
  have Y : K.In h₁ := X.keeps old
  show wpAny _ _ (execs _ _) _ _ _
  refine wpAny_execs_cons (plainObj_wpAny_Assign_Attribute (ldN (v := v) nsL (by first | rfl | with_unfolding_all rfl | kernel_rfl) (ldN (v := .ref x) nsL (by first | rfl | with_unfolding_all rfl | kernel_rfl) ?_)))
  refine set_plain Y (ox := excO C t0) (od := none) ⟨old _ _ at_x, rfl, rfl, trivial⟩ T.sa (own_new Y (old _ _ at_x) hcl (pass _) T.ec.ob hh F.no fun h₃ tk₃ dx k₃ dn dne at3 ns3 => ?_)
  show wpAny _ _ (execs _ _) _ _ _
  exact wpAny_execs_nil (ok h₃ tk₃ dx ⟨fun b o hb e => k₃ b o hb (old b o e), at3, Nat.le_of_lt (Nat.lt_of_lt_of_le nsL.lt dn), dne, ns3⟩)

def aI_sign (p1 p2 : Pos) : Arguments := { posonlyargs := [], args := [{ arg := "self", annotation := none, pos := p1 }, { arg := "sign", annotation := none, pos := p2 }], vararg := none, kwonlyargs := [], kw_defaults := [], kwarg := none, defaults := [] }
def bI_sign (q1 q2 q3 q4 : Pos) : List Stmt := [.Assign [.Attribute (.Name "self" q1) "sign" q2] (.Name "sign" q3) q4]
def sI_sign : Scope := { kind := .function, names := [(PySem.Str.ofString "self", .local), (PySem.Str.ofString "sign", .local)], isGenerator := false, isCoroutine := false, more := [] }
structure XF_sign (K : Frag) (C fI : Addr) : Prop where
  no : findIn K (.ref C) "sign" = some none
  fn : ∃ (oc : Value) (od : Option Addr) (doc pm : Value) (an : Option Addr) (cdv ct : Value) (osl : Array (Option Value)) (qual : Str) (p1 p2 q1 q2 q3 q4 : Pos),
    K.lookup fI = some ⟨oc, od, .func (fnOf "__init__" qual (aI_sign p1 p2) (bI_sign q1 q2 q3 q4) sI_sign .none .none doc pm an cdv ct), osl⟩ ∧ codeIn K cdv qual = true
theorem run_sign (T : XB K C bmB newId) (b : Bs B newId initId bmB) (F : XF_sign K C fI) {x t0 : Addr} {v : Value} {pos : List Value} {kw : List (Str × Value)} (form : (pos = [v] ∧ kw = []) ∨ (pos = [] ∧ kw = [(("sign" : Str), v)])) (X : K.In s.heap) (nl : s.heap.NoLimit) (at_x : s.heap.get? x = some (excO C t0)) (out : K.lookup x = none) (room : A.depth < recursionLimit)
    (ok : ∀ h' tk dx, Made s.heap h' x C dx t0 (fun y => if y = "sign" then some v else none) → R (.ok (.ret .none)) { s with heap := h', toks := tk }) : codeAny (model prog w) A (.call (.ref fI) ⟨.ref x :: pos, kw⟩) R s := by
  obtain ⟨oc, od, doc, pm, an, cdv, ct, osl, qual, p1, p2, q1, q2, q3, q4, ho, hcd⟩ := F.fn
  obtain ⟨cd, hcl, pass, hh⟩ := T.data b
  have bd : BindsTo s (fnOf "__init__" qual (aI_sign p1 p2) (bI_sign q1 q2 q3 q4) sI_sign .none .none doc pm an cdv ct) ⟨.ref x :: pos, kw⟩ [("self", .ref x), ("sign", v)] := by
    rcases form with ⟨rfl, rfl⟩ | ⟨rfl, rfl⟩
    · exact BindsTo.of_eq (by first | rfl | with_unfolding_all rfl)
    · exact BindsTo.of_eq (by first | rfl | with_unfolding_all rfl)
  refine Att.call_fn (binds := [("self", .ref x), ("sign", v)]) X nl ho hcd room bd (by first | rfl | decide | with_unfolding_all rfl) (fun s₁ IC => ?_) rfl rfl rfl
  obtain ⟨h₁, tk₁, rfl⟩ := IC.toInCall.same
  have old : ∀ b o, s.heap.get? b = some o → h₁.get? b = some o := IC.toInCall.keep
  have nsL := IC.toInCall.ns
  have Y : K.In h₁ := X.keeps old
  show wpAny _ _ (execs _ _) _ _ _
  refine wpAny_execs_cons (plainObj_wpAny_Assign_Attribute (ldN (v := v) nsL (by first | rfl | with_unfolding_all rfl | kernel_rfl) (ldN (v := .ref x) nsL (by first | rfl | with_unfolding_all rfl | kernel_rfl) ?_)))
  refine set_plain Y (ox := excO C t0) (od := none) ⟨old _ _ at_x, rfl, rfl, trivial⟩ T.sa (own_new Y (old _ _ at_x) hcl (pass _) T.ec.ob hh F.no fun h₃ tk₃ dx k₃ dn dne at3 ns3 => ?_)
  show wpAny _ _ (execs _ _) _ _ _
  exact wpAny_execs_nil (ok h₃ tk₃ dx ⟨fun b o hb e => k₃ b o hb (old b o e), at3, Nat.le_of_lt (Nat.lt_of_lt_of_le nsL.lt dn), dne, ns3⟩)

def aI_line (p1 p2 : Pos) : Arguments := { posonlyargs := [], args := [{ arg := "self", annotation := none, pos := p1 }, { arg := "line", annotation := none, pos := p2 }], vararg := none, kwonlyargs := [], kw_defaults := [], kwarg := none, defaults := [] }
def bI_line (q1 q2 q3 q4 : Pos) : List Stmt := [.Assign [.Attribute (.Name "self" q1) "line" q2] (.Name "line" q3) q4]
def sI_line : Scope := { kind := .function, names := [(PySem.Str.ofString "self", .local), (PySem.Str.ofString "line", .local)], isGenerator := false, isCoroutine := false, more := [] }
structure XF_line (K : Frag) (C fI : Addr) : Prop where
  no : findIn K (.ref C) "line" = some none
  fn : ∃ (oc : Value) (od : Option Addr) (doc pm : Value) (an : Option Addr) (cdv ct : Value) (osl : Array (Option Value)) (qual : Str) (p1 p2 q1 q2 q3 q4 : Pos),
    K.lookup fI = some ⟨oc, od, .func (fnOf "__init__" qual (aI_line p1 p2) (bI_line q1 q2 q3 q4) sI_line .none .none doc pm an cdv ct), osl⟩ ∧ codeIn K cdv qual = true
theorem run_line (T : XB K C bmB newId) (b : Bs B newId initId bmB) (F : XF_line K C fI) {x t0 : Addr} {v : Value} {pos : List Value} {kw : List (Str × Value)} (form : (pos = [v] ∧ kw = []) ∨ (pos = [] ∧ kw = [(("line" : Str), v)])) (X : K.In s.heap) (nl : s.heap.NoLimit) (at_x : s.heap.get? x = some (excO C t0)) (out : K.lookup x = none) (room : A.depth < recursionLimit)
    (ok : ∀ h' tk dx, Made s.heap h' x C dx t0 (fun y => if y = "line" then some v else none) → R (.ok (.ret .none)) { s with heap := h', toks := tk }) : codeAny (model prog w) A (.call (.ref fI) ⟨.ref x :: pos, kw⟩) R s := by
  obtain ⟨oc, od, doc, pm, an, cdv, ct, osl, qual, p1, p2, q1, q2, q3, q4, ho, hcd⟩ := F.fn
  obtain ⟨cd, hcl, pass, hh⟩ := T.data b
  have bd : BindsTo s (fnOf "__init__" qual (aI_line p1 p2) (bI_line q1 q2 q3 q4) sI_line .none .none doc pm an cdv ct) ⟨.ref x :: pos, kw⟩ [("self", .ref x), ("line", v)] := by
    rcases form with ⟨rfl, rfl⟩ | ⟨rfl, rfl⟩
    · exact BindsTo.of_eq (by first | rfl | with_unfolding_all rfl)
    · exact BindsTo.of_eq (by first | rfl | with_unfolding_all rfl)
  refine Att.call_fn (binds := [("self", .ref x), ("line", v)]) X nl ho hcd room bd (by first | rfl | decide | with_unfolding_all rfl) (fun s₁ IC => ?_) rfl rfl rfl
  obtain ⟨h₁, tk₁, rfl⟩ := IC.toInCall.same
  have old : ∀ b o, s.heap.get? b = some o → h₁.get? b = some o := IC.toInCall.keep
  have nsL := IC.toInCall.ns
  have Y : K.In h₁ := X.keeps old
  show wpAny _ _ (execs _ _) _ _ _
  refine wpAny_execs_cons (plainObj_wpAny_Assign_Attribute (ldN (v := v) nsL (by first | rfl | with_unfolding_all rfl | kernel_rfl) (ldN (v := .ref x) nsL (by first | rfl | with_unfolding_all rfl | kernel_rfl) ?_)))
  refine set_plain Y (ox := excO C t0) (od := none) ⟨old _ _ at_x, rfl, rfl, trivial⟩ T.sa (own_new Y (old _ _ at_x) hcl (pass _) T.ec.ob hh F.no fun h₃ tk₃ dx k₃ dn dne at3 ns3 => ?_)
  show wpAny _ _ (execs _ _) _ _ _
  exact wpAny_execs_nil (ok h₃ tk₃ dx ⟨fun b o hb e => k₃ b o hb (old b o e), at3, Nat.le_of_lt (Nat.lt_of_lt_of_le nsL.lt dn), dne, ns3⟩)

def aI_paper (p1 p2 : Pos) : Arguments := { posonlyargs := [], args := [{ arg := "self", annotation := none, pos := p1 }, { arg := "paper", annotation := none, pos := p2 }], vararg := none, kwonlyargs := [], kw_defaults := [], kwarg := none, defaults := [] }
def bI_paper (q1 q2 q3 q4 : Pos) : List Stmt := [.Assign [.Attribute (.Name "self" q1) "paper" q2] (.Name "paper" q3) q4]
def sI_paper : Scope := { kind := .function, names := [(PySem.Str.ofString "self", .local), (PySem.Str.ofString "paper", .local)], isGenerator := false, isCoroutine := false, more := [] }
structure XF_paper (K : Frag) (C fI : Addr) : Prop where
  no : findIn K (.ref C) "paper" = some none
  fn : ∃ (oc : Value) (od : Option Addr) (doc pm : Value) (an : Option Addr) (cdv ct : Value) (osl : Array (Option Value)) (qual : Str) (p1 p2 q1 q2 q3 q4 : Pos),
    K.lookup fI = some ⟨oc, od, .func (fnOf "__init__" qual (aI_paper p1 p2) (bI_paper q1 q2 q3 q4) sI_paper .none .none doc pm an cdv ct), osl⟩ ∧ codeIn K cdv qual = true
theorem run_paper (T : XB K C bmB newId) (b : Bs B newId initId bmB) (F : XF_paper K C fI) {x t0 : Addr} {v : Value} {pos : List Value} {kw : List (Str × Value)} (form : (pos = [v] ∧ kw = []) ∨ (pos = [] ∧ kw = [(("paper" : Str), v)])) (X : K.In s.heap) (nl : s.heap.NoLimit) (at_x : s.heap.get? x = some (excO C t0)) (out : K.lookup x = none) (room : A.depth < recursionLimit)
    (ok : ∀ h' tk dx, Made s.heap h' x C dx t0 (fun y => if y = "paper" then some v else none) → R (.ok (.ret .none)) { s with heap := h', toks := tk }) : codeAny (model prog w) A (.call (.ref fI) ⟨.ref x :: pos, kw⟩) R s := by
  obtain ⟨oc, od, doc, pm, an, cdv, ct, osl, qual, p1, p2, q1, q2, q3, q4, ho, hcd⟩ := F.fn
  obtain ⟨cd, hcl, pass, hh⟩ := T.data b
  have bd : BindsTo s (fnOf "__init__" qual (aI_paper p1 p2) (bI_paper q1 q2 q3 q4) sI_paper .none .none doc pm an cdv ct) ⟨.ref x :: pos, kw⟩ [("self", .ref x), ("paper", v)] := by
    rcases form with ⟨rfl, rfl⟩ | ⟨rfl, rfl⟩
    · exact BindsTo.of_eq (by first | rfl | with_unfolding_all rfl)
    · exact BindsTo.of_eq (by first | rfl | with_unfolding_all rfl)
  refine Att.call_fn (binds := [("self", .ref x), ("paper", v)]) X nl ho hcd room bd (by first | rfl | decide | with_unfolding_all rfl) (fun s₁ IC => ?_) rfl rfl rfl
  obtain ⟨h₁, tk₁, rfl⟩ := IC.toInCall.same
  have old : ∀ b o, s.heap.get? b = some o → h₁.get? b = some o := IC.toInCall.keep
  have nsL := IC.toInCall.ns
  have Y : K.In h₁ := X.keeps old
  show wpAny _ _ (execs _ _) _ _ _
  refine wpAny_execs_cons (plainObj_wpAny_Assign_Attribute (ldN (v := v) nsL (by first | rfl | with_unfolding_all rfl | kernel_rfl) (ldN (v := .ref x) nsL (by first | rfl | with_unfolding_all rfl | kernel_rfl) ?_)))
  refine set_plain Y (ox := excO C t0) (od := none) ⟨old _ _ at_x, rfl, rfl, trivial⟩ T.sa (own_new Y (old _ _ at_x) hcl (pass _) T.ec.ob hh F.no fun h₃ tk₃ dx k₃ dn dne at3 ns3 => ?_)
  show wpAny _ _ (execs _ _) _ _ _
  exact wpAny_execs_nil (ok h₃ tk₃ dx ⟨fun b o hb e => k₃ b o hb (old b o e), at3, Nat.le_of_lt (Nat.lt_of_lt_of_le nsL.lt dn), dne, ns3⟩)

def aI_text (p1 p2 : Pos) : Arguments := { posonlyargs := [], args := [{ arg := "self", annotation := none, pos := p1 }, { arg := "text", annotation := none, pos := p2 }], vararg := none, kwonlyargs := [], kw_defaults := [], kwarg := none, defaults := [] }
def bI_text (q1 q2 q3 q4 : Pos) : List Stmt := [.Assign [.Attribute (.Name "self" q1) "text" q2] (.Name "text" q3) q4]
def sI_text : Scope := { kind := .function, names := [(PySem.Str.ofString "self", .local), (PySem.Str.ofString "text", .local)], isGenerator := false, isCoroutine := false, more := [] }
structure XF_text (K : Frag) (C fI : Addr) : Prop where
  no : findIn K (.ref C) "text" = some none
  fn : ∃ (oc : Value) (od : Option Addr) (doc pm : Value) (an : Option Addr) (cdv ct : Value) (osl : Array (Option Value)) (qual : Str) (p1 p2 q1 q2 q3 q4 : Pos),
    K.lookup fI = some ⟨oc, od, .func (fnOf "__init__" qual (aI_text p1 p2) (bI_text q1 q2 q3 q4) sI_text .none .none doc pm an cdv ct), osl⟩ ∧ codeIn K cdv qual = true
theorem run_text (T : XB K C bmB newId) (b : Bs B newId initId bmB) (F : XF_text K C fI) {x t0 : Addr} {v : Value} {pos : List Value} {kw : List (Str × Value)} (form : (pos = [v] ∧ kw = []) ∨ (pos = [] ∧ kw = [(("text" : Str), v)])) (X : K.In s.heap) (nl : s.heap.NoLimit) (at_x : s.heap.get? x = some (excO C t0)) (out : K.lookup x = none) (room : A.depth < recursionLimit)
    (ok : ∀ h' tk dx, Made s.heap h' x C dx t0 (fun y => if y = "text" then some v else none) → R (.ok (.ret .none)) { s with heap := h', toks := tk }) : codeAny (model prog w) A (.call (.ref fI) ⟨.ref x :: pos, kw⟩) R s := by
  obtain ⟨oc, od, doc, pm, an, cdv, ct, osl, qual, p1, p2, q1, q2, q3, q4, ho, hcd⟩ := F.fn
  obtain ⟨cd, hcl, pass, hh⟩ := T.data b
  have bd : BindsTo s (fnOf "__init__" qual (aI_text p1 p2) (bI_text q1 q2 q3 q4) sI_text .none .none doc pm an cdv ct) ⟨.ref x :: pos, kw⟩ [("self", .ref x), ("text", v)] := by
    rcases form with ⟨rfl, rfl⟩ | ⟨rfl, rfl⟩
    · exact BindsTo.of_eq (by first | rfl | with_unfolding_all rfl)
    · exact BindsTo.of_eq (by first | rfl | with_unfolding_all rfl)
  refine Att.call_fn (binds := [("self", .ref x), ("text", v)]) X nl ho hcd room bd (by first | rfl | decide | with_unfolding_all rfl) (fun s₁ IC => ?_) rfl rfl rfl
  obtain ⟨h₁, tk₁, rfl⟩ := IC.toInCall.same
  have old : ∀ b o, s.heap.get? b = some o → h₁.get? b = some o := IC.toInCall.keep
  have nsL := IC.toInCall.ns
  have Y : K.In h₁ := X.keeps old
  show wpAny _ _ (execs _ _) _ _ _
  refine wpAny_execs_cons (plainObj_wpAny_Assign_Attribute (ldN (v := v) nsL (by first | rfl | with_unfolding_all rfl | kernel_rfl) (ldN (v := .ref x) nsL (by first | rfl | with_unfolding_all rfl | kernel_rfl) ?_)))
  refine set_plain Y (ox := excO C t0) (od := none) ⟨old _ _ at_x, rfl, rfl, trivial⟩ T.sa (own_new Y (old _ _ at_x) hcl (pass _) T.ec.ob hh F.no fun h₃ tk₃ dx k₃ dn dne at3 ns3 => ?_)
  show wpAny _ _ (execs _ _) _ _ _
  exact wpAny_execs_nil (ok h₃ tk₃ dx ⟨fun b o hb e => k₃ b o hb (old b o e), at3, Nat.le_of_lt (Nat.lt_of_lt_of_le nsL.lt dn), dne, ns3⟩)

def aI_clash (p1 p2 : Pos) : Arguments := { posonlyargs := [], args := [{ arg := "self", annotation := none, pos := p1 }, { arg := "clash", annotation := none, pos := p2 }], vararg := none, kwonlyargs := [], kw_defaults := [], kwarg := none, defaults := [] }
def bI_clash (q1 q2 q3 q4 : Pos) : List Stmt := [.Assign [.Attribute (.Name "self" q1) "clash" q2] (.Name "clash" q3) q4]
def sI_clash : Scope := { kind := .function, names := [(PySem.Str.ofString "self", .local), (PySem.Str.ofString "clash", .local)], isGenerator := false, isCoroutine := false, more := [] }
structure XF_clash (K : Frag) (C fI : Addr) : Prop where
  no : findIn K (.ref C) "clash" = some none
  fn : ∃ (oc : Value) (od : Option Addr) (doc pm : Value) (an : Option Addr) (cdv ct : Value) (osl : Array (Option Value)) (qual : Str) (p1 p2 q1 q2 q3 q4 : Pos),
    K.lookup fI = some ⟨oc, od, .func (fnOf "__init__" qual (aI_clash p1 p2) (bI_clash q1 q2 q3 q4) sI_clash .none .none doc pm an cdv ct), osl⟩ ∧ codeIn K cdv qual = true
theorem run_clash (T : XB K C bmB newId) (b : Bs B newId initId bmB) (F : XF_clash K C fI) {x t0 : Addr} {v : Value} {pos : List Value} {kw : List (Str × Value)} (form : (pos = [v] ∧ kw = []) ∨ (pos = [] ∧ kw = [(("clash" : Str), v)])) (X : K.In s.heap) (nl : s.heap.NoLimit) (at_x : s.heap.get? x = some (excO C t0)) (out : K.lookup x = none) (room : A.depth < recursionLimit)
    (ok : ∀ h' tk dx, Made s.heap h' x C dx t0 (fun y => if y = "clash" then some v else none) → R (.ok (.ret .none)) { s with heap := h', toks := tk }) : codeAny (model prog w) A (.call (.ref fI) ⟨.ref x :: pos, kw⟩) R s := by
  obtain ⟨oc, od, doc, pm, an, cdv, ct, osl, qual, p1, p2, q1, q2, q3, q4, ho, hcd⟩ := F.fn
  obtain ⟨cd, hcl, pass, hh⟩ := T.data b
  have bd : BindsTo s (fnOf "__init__" qual (aI_clash p1 p2) (bI_clash q1 q2 q3 q4) sI_clash .none .none doc pm an cdv ct) ⟨.ref x :: pos, kw⟩ [("self", .ref x), ("clash", v)] := by
    rcases form with ⟨rfl, rfl⟩ | ⟨rfl, rfl⟩
    · exact BindsTo.of_eq (by first | rfl | with_unfolding_all rfl)
    · exact BindsTo.of_eq (by first | rfl | with_unfolding_all rfl)
  refine Att.call_fn (binds := [("self", .ref x), ("clash", v)]) X nl ho hcd room bd (by first | rfl | decide | with_unfolding_all rfl) (fun s₁ IC => ?_) rfl rfl rfl
  obtain ⟨h₁, tk₁, rfl⟩ := IC.toInCall.same
  have old : ∀ b o, s.heap.get? b = some o → h₁.get? b = some o := IC.toInCall.keep
  have nsL := IC.toInCall.ns
  have Y : K.In h₁ := X.keeps old
  show wpAny _ _ (execs _ _) _ _ _
  refine wpAny_execs_cons (plainObj_wpAny_Assign_Attribute (ldN (v := v) nsL (by first | rfl | with_unfolding_all rfl | kernel_rfl) (ldN (v := .ref x) nsL (by first | rfl | with_unfolding_all rfl | kernel_rfl) ?_)))
  refine set_plain Y (ox := excO C t0) (od := none) ⟨old _ _ at_x, rfl, rfl, trivial⟩ T.sa (own_new Y (old _ _ at_x) hcl (pass _) T.ec.ob hh F.no fun h₃ tk₃ dx k₃ dn dne at3 ns3 => ?_)
  show wpAny _ _ (execs _ _) _ _ _
  exact wpAny_execs_nil (ok h₃ tk₃ dx ⟨fun b o hb e => k₃ b o hb (old b o e), at3, Nat.le_of_lt (Nat.lt_of_lt_of_le nsL.lt dn), dne, ns3⟩)

def aI_name (p1 p2 : Pos) : Arguments := { posonlyargs := [], args := [{ arg := "self", annotation := none, pos := p1 }, { arg := "name", annotation := none, pos := p2 }], vararg := none, kwonlyargs := [], kw_defaults := [], kwarg := none, defaults := [] }
def bI_name (q1 q2 q3 q4 : Pos) : List Stmt := [.Assign [.Attribute (.Name "self" q1) "name" q2] (.Name "name" q3) q4]
def sI_name : Scope := { kind := .function, names := [(PySem.Str.ofString "self", .local), (PySem.Str.ofString "name", .local)], isGenerator := false, isCoroutine := false, more := [] }
structure XF_name (K : Frag) (C fI : Addr) : Prop where
  no : findIn K (.ref C) "name" = some none
  fn : ∃ (oc : Value) (od : Option Addr) (doc pm : Value) (an : Option Addr) (cdv ct : Value) (osl : Array (Option Value)) (qual : Str) (p1 p2 q1 q2 q3 q4 : Pos),
    K.lookup fI = some ⟨oc, od, .func (fnOf "__init__" qual (aI_name p1 p2) (bI_name q1 q2 q3 q4) sI_name .none .none doc pm an cdv ct), osl⟩ ∧ codeIn K cdv qual = true
theorem run_name (T : XB K C bmB newId) (b : Bs B newId initId bmB) (F : XF_name K C fI) {x t0 : Addr} {v : Value} {pos : List Value} {kw : List (Str × Value)} (form : (pos = [v] ∧ kw = []) ∨ (pos = [] ∧ kw = [(("name" : Str), v)])) (X : K.In s.heap) (nl : s.heap.NoLimit) (at_x : s.heap.get? x = some (excO C t0)) (out : K.lookup x = none) (room : A.depth < recursionLimit)
    (ok : ∀ h' tk dx, Made s.heap h' x C dx t0 (fun y => if y = "name" then some v else none) → R (.ok (.ret .none)) { s with heap := h', toks := tk }) : codeAny (model prog w) A (.call (.ref fI) ⟨.ref x :: pos, kw⟩) R s := by
  obtain ⟨oc, od, doc, pm, an, cdv, ct, osl, qual, p1, p2, q1, q2, q3, q4, ho, hcd⟩ := F.fn
  obtain ⟨cd, hcl, pass, hh⟩ := T.data b
  have bd : BindsTo s (fnOf "__init__" qual (aI_name p1 p2) (bI_name q1 q2 q3 q4) sI_name .none .none doc pm an cdv ct) ⟨.ref x :: pos, kw⟩ [("self", .ref x), ("name", v)] := by
    rcases form with ⟨rfl, rfl⟩ | ⟨rfl, rfl⟩
    · exact BindsTo.of_eq (by first | rfl | with_unfolding_all rfl)
    · exact BindsTo.of_eq (by first | rfl | with_unfolding_all rfl)
  refine Att.call_fn (binds := [("self", .ref x), ("name", v)]) X nl ho hcd room bd (by first | rfl | decide | with_unfolding_all rfl) (fun s₁ IC => ?_) rfl rfl rfl
  obtain ⟨h₁, tk₁, rfl⟩ := IC.toInCall.same
  have old : ∀ b o, s.heap.get? b = some o → h₁.get? b = some o := IC.toInCall.keep
  have nsL := IC.toInCall.ns
  have Y : K.In h₁ := X.keeps old
  show wpAny _ _ (execs _ _) _ _ _
  refine wpAny_execs_cons (plainObj_wpAny_Assign_Attribute (ldN (v := v) nsL (by first | rfl | with_unfolding_all rfl | kernel_rfl) (ldN (v := .ref x) nsL (by first | rfl | with_unfolding_all rfl | kernel_rfl) ?_)))
  refine set_plain Y (ox := excO C t0) (od := none) ⟨old _ _ at_x, rfl, rfl, trivial⟩ T.sa (own_new Y (old _ _ at_x) hcl (pass _) T.ec.ob hh F.no fun h₃ tk₃ dx k₃ dn dne at3 ns3 => ?_)
  show wpAny _ _ (execs _ _) _ _ _
  exact wpAny_execs_nil (ok h₃ tk₃ dx ⟨fun b o hb e => k₃ b o hb (old b o e), at3, Nat.le_of_lt (Nat.lt_of_lt_of_le nsL.lt dn), dne, ns3⟩)

def aJ_low_high (p1 p2 p3 : Pos) : Arguments := { posonlyargs := [], args := [{ arg := "self", annotation := none, pos := p1 }, { arg := "low", annotation := none, pos := p2 }, { arg := "high", annotation := none, pos := p3 }], vararg := none, kwonlyargs := [], kw_defaults := [], kwarg := none, defaults := [] }
def bJ_low_high (q1 q2 q3 q4 r1 r2 r3 r4 : Pos) : List Stmt := [.Assign [.Attribute (.Name "self" q1) "low" q2] (.Name "low" q3) q4, .Assign [.Attribute (.Name "self" r1) "high" r2] (.Name "high" r3) r4]
def sJ_low_high : Scope := { kind := .function, names := [(PySem.Str.ofString "self", .local), (PySem.Str.ofString "low", .local), (PySem.Str.ofString "high", .local)], isGenerator := false, isCoroutine := false, more := [] }
structure XF_low_high (K : Frag) (C fI : Addr) : Prop where
  noA : findIn K (.ref C) "low" = some none
  noB : findIn K (.ref C) "high" = some none
  fn : ∃ (oc : Value) (od : Option Addr) (doc pm : Value) (an : Option Addr) (cdv ct : Value) (osl : Array (Option Value)) (qual : Str) (p1 p2 p3 q1 q2 q3 q4 r1 r2 r3 r4 : Pos),
    K.lookup fI = some ⟨oc, od, .func (fnOf "__init__" qual (aJ_low_high p1 p2 p3) (bJ_low_high q1 q2 q3 q4 r1 r2 r3 r4) sJ_low_high .none .none doc pm an cdv ct), osl⟩ ∧ codeIn K cdv qual = true
def mJ_low_high (u v : Value) : Str → Option Value := fun y => if y = "high" then some v else if y = "low" then some u else none
theorem run_low_high (T : XB K C bmB newId) (b : Bs B newId initId bmB) (F : XF_low_high K C fI) {x t0 : Addr} {u v : Value} (X : K.In s.heap) (nl : s.heap.NoLimit) (at_x : s.heap.get? x = some (excO C t0)) (out : K.lookup x = none) (room : A.depth < recursionLimit)
    (ok : ∀ h' tk dx, Made s.heap h' x C dx t0 (mJ_low_high u v) → R (.ok (.ret .none)) { s with heap := h', toks := tk }) : codeAny (model prog w) A (.call (.ref fI) ⟨[.ref x], [(("high" : Str), v), (("low" : Str), u)]⟩) R s := by
  obtain ⟨oc, od, doc, pm, an, cdv, ct, osl, qual, p1, p2, p3, q1, q2, q3, q4, r1, r2, r3, r4, ho, hcd⟩ := F.fn
  obtain ⟨cd, hcl, pass, hh⟩ := T.data b
  have bd : BindsTo s (fnOf "__init__" qual (aJ_low_high p1 p2 p3) (bJ_low_high q1 q2 q3 q4 r1 r2 r3 r4) sJ_low_high .none .none doc pm an cdv ct) ⟨[.ref x], [(("high" : Str), v), (("low" : Str), u)]⟩ [("self", .ref x), ("low", u), ("high", v)] := BindsTo.of_eq (by first | rfl | with_unfolding_all rfl)
  refine Att.call_fn (binds := [("self", .ref x), ("low", u), ("high", v)]) X nl ho hcd room bd (by first | rfl | decide | with_unfolding_all rfl) (fun s₁ IC => ?_) rfl rfl rfl
  obtain ⟨h₁, tk₁, rfl⟩ := IC.toInCall.same
  have old : ∀ b o, s.heap.get? b = some o → h₁.get? b = some o := IC.toInCall.keep
  have nsL := IC.toInCall.ns
  have Y : K.In h₁ := X.keeps old
  show wpAny _ _ (execs _ _) _ _ _
  refine wpAny_execs_cons (plainObj_wpAny_Assign_Attribute (ldN (v := u) nsL (by first | rfl | with_unfolding_all rfl | kernel_rfl) (ldN (v := .ref x) nsL (by first | rfl | with_unfolding_all rfl | kernel_rfl) ?_)))
  refine set_plain Y (ox := excO C t0) (od := none) ⟨old _ _ at_x, rfl, rfl, trivial⟩ T.sa (own_new Y (old _ _ at_x) hcl (pass _) T.ec.ob hh F.noA fun h₃ tk₃ dx k₃ dn dne at3 ns3 => ?_)
  have neL : s.heap.objs.size ≠ x := Nat.ne_of_gt (Heap.lt_size at_x)
  have nsL3 := nsL.at fun o e => k₃ _ o neL e
  have Z : K.In h₃ := fun b o e => k₃ b o (fun z => by rw [z] at e; rw [out] at e; cases e) (Y b o e)
  have wi : Within (fun y => if y = ("low" : Str) then some u else none) ["low"] := fun y hy => by
    by_cases c : y = ("low" : Str)
    · rw [c]; exact List.mem_cons_self
    · exact absurd (if_neg c) hy
  obtain ⟨oD, _, _, at_d, _, _⟩ := ns3.count wi
  refine wpAny_execs_cons (plainObj_wpAny_Assign_Attribute (ldN (v := v) nsL3 (by first | rfl | with_unfolding_all rfl | kernel_rfl) (ldN (v := .ref x) nsL3 (by first | rfl | with_unfolding_all rfl | kernel_rfl) ?_)))
  refine set_plain Z (ox := { cls := .ref C, dict := some dx, data := .fields #[.ref t0, .none, .none, .none, .bool false, .none] }) (od := some oD) ⟨at3, rfl, rfl, at_d⟩ T.sa (own_old Z at3 ns3 wi (by decide) hcl (pass _) T.ec.ob hh F.noB fun h₄ tk₄ k₄ ns4 => ?_)
  show wpAny _ _ (execs _ _) _ _ _
  have low : s.heap.objs.size ≤ dx := Nat.le_of_lt (Nat.lt_of_lt_of_le nsL.lt dn)
  refine wpAny_execs_nil (ok h₄ tk₄ dx ⟨fun b o hb e => k₄ b o ?_ (k₃ b o hb (old b o e)), k₄ _ _ dne.symm at3, low, dne, ns4⟩)
  exact Nat.ne_of_lt (Nat.lt_of_lt_of_le (Heap.lt_size e) low)

def aJ_state_sign (p1 p2 p3 : Pos) : Arguments := { posonlyargs := [], args := [{ arg := "self", annotation := none, pos := p1 }, { arg := "state", annotation := none, pos := p2 }, { arg := "sign", annotation := none, pos := p3 }], vararg := none, kwonlyargs := [], kw_defaults := [], kwarg := none, defaults := [] }
def bJ_state_sign (q1 q2 q3 q4 r1 r2 r3 r4 : Pos) : List Stmt := [.Assign [.Attribute (.Name "self" q1) "state" q2] (.Name "state" q3) q4, .Assign [.Attribute (.Name "self" r1) "sign" r2] (.Name "sign" r3) r4]
def sJ_state_sign : Scope := { kind := .function, names := [(PySem.Str.ofString "self", .local), (PySem.Str.ofString "state", .local), (PySem.Str.ofString "sign", .local)], isGenerator := false, isCoroutine := false, more := [] }
structure XF_state_sign (K : Frag) (C fI : Addr) : Prop where
  noA : findIn K (.ref C) "state" = some none
  noB : findIn K (.ref C) "sign" = some none
  fn : ∃ (oc : Value) (od : Option Addr) (doc pm : Value) (an : Option Addr) (cdv ct : Value) (osl : Array (Option Value)) (qual : Str) (p1 p2 p3 q1 q2 q3 q4 r1 r2 r3 r4 : Pos),
    K.lookup fI = some ⟨oc, od, .func (fnOf "__init__" qual (aJ_state_sign p1 p2 p3) (bJ_state_sign q1 q2 q3 q4 r1 r2 r3 r4) sJ_state_sign .none .none doc pm an cdv ct), osl⟩ ∧ codeIn K cdv qual = true
def mJ_state_sign (u v : Value) : Str → Option Value := fun y => if y = "sign" then some v else if y = "state" then some u else none
theorem run_state_sign (T : XB K C bmB newId) (b : Bs B newId initId bmB) (F : XF_state_sign K C fI) {x t0 : Addr} {u v : Value} (X : K.In s.heap) (nl : s.heap.NoLimit) (at_x : s.heap.get? x = some (excO C t0)) (out : K.lookup x = none) (room : A.depth < recursionLimit)
    (ok : ∀ h' tk dx, Made s.heap h' x C dx t0 (mJ_state_sign u v) → R (.ok (.ret .none)) { s with heap := h', toks := tk }) : codeAny (model prog w) A (.call (.ref fI) ⟨[.ref x], [(("sign" : Str), v), (("state" : Str), u)]⟩) R s := by
  obtain ⟨oc, od, doc, pm, an, cdv, ct, osl, qual, p1, p2, p3, q1, q2, q3, q4, r1, r2, r3, r4, ho, hcd⟩ := F.fn
  obtain ⟨cd, hcl, pass, hh⟩ := T.data b
  have bd : BindsTo s (fnOf "__init__" qual (aJ_state_sign p1 p2 p3) (bJ_state_sign q1 q2 q3 q4 r1 r2 r3 r4) sJ_state_sign .none .none doc pm an cdv ct) ⟨[.ref x], [(("sign" : Str), v), (("state" : Str), u)]⟩ [("self", .ref x), ("state", u), ("sign", v)] := BindsTo.of_eq (by first | rfl | with_unfolding_all rfl)
  refine Att.call_fn (binds := [("self", .ref x), ("state", u), ("sign", v)]) X nl ho hcd room bd (by first | rfl | decide | with_unfolding_all rfl) (fun s₁ IC => ?_) rfl rfl rfl
  obtain ⟨h₁, tk₁, rfl⟩ := IC.toInCall.same
  have old : ∀ b o, s.heap.get? b = some o → h₁.get? b = some o := IC.toInCall.keep
  have nsL := IC.toInCall.ns
  have Y : K.In h₁ := X.keeps old
  show wpAny _ _ (execs _ _) _ _ _
  refine wpAny_execs_cons (plainObj_wpAny_Assign_Attribute (ldN (v := u) nsL (by first | rfl | with_unfolding_all rfl | kernel_rfl) (ldN (v := .ref x) nsL (by first | rfl | with_unfolding_all rfl | kernel_rfl) ?_)))
  refine set_plain Y (ox := excO C t0) (od := none) ⟨old _ _ at_x, rfl, rfl, trivial⟩ T.sa (own_new Y (old _ _ at_x) hcl (pass _) T.ec.ob hh F.noA fun h₃ tk₃ dx k₃ dn dne at3 ns3 => ?_)
  have neL : s.heap.objs.size ≠ x := Nat.ne_of_gt (Heap.lt_size at_x)
  have nsL3 := nsL.at fun o e => k₃ _ o neL e
  have Z : K.In h₃ := fun b o e => k₃ b o (fun z => by rw [z] at e; rw [out] at e; cases e) (Y b o e)
  have wi : Within (fun y => if y = ("state" : Str) then some u else none) ["state"] := fun y hy => by
    by_cases c : y = ("state" : Str)
    · rw [c]; exact List.mem_cons_self
    · exact absurd (if_neg c) hy
  obtain ⟨oD, _, _, at_d, _, _⟩ := ns3.count wi
  refine wpAny_execs_cons (plainObj_wpAny_Assign_Attribute (ldN (v := v) nsL3 (by first | rfl | with_unfolding_all rfl | kernel_rfl) (ldN (v := .ref x) nsL3 (by first | rfl | with_unfolding_all rfl | kernel_rfl) ?_)))
  refine set_plain Z (ox := { cls := .ref C, dict := some dx, data := .fields #[.ref t0, .none, .none, .none, .bool false, .none] }) (od := some oD) ⟨at3, rfl, rfl, at_d⟩ T.sa (own_old Z at3 ns3 wi (by decide) hcl (pass _) T.ec.ob hh F.noB fun h₄ tk₄ k₄ ns4 => ?_)
  show wpAny _ _ (execs _ _) _ _ _
  have low : s.heap.objs.size ≤ dx := Nat.le_of_lt (Nat.lt_of_lt_of_le nsL.lt dn)
  refine wpAny_execs_nil (ok h₄ tk₄ dx ⟨fun b o hb e => k₄ b o ?_ (k₃ b o hb (old b o e)), k₄ _ _ dne.symm at3, low, dne, ns4⟩)
  exact Nat.ne_of_lt (Nat.lt_of_lt_of_le (Heap.lt_size e) low)

def aJ_one_other (p1 p2 p3 : Pos) : Arguments := { posonlyargs := [], args := [{ arg := "self", annotation := none, pos := p1 }, { arg := "one", annotation := none, pos := p2 }, { arg := "other", annotation := none, pos := p3 }], vararg := none, kwonlyargs := [], kw_defaults := [], kwarg := none, defaults := [] }
def bJ_one_other (q1 q2 q3 q4 r1 r2 r3 r4 : Pos) : List Stmt := [.Assign [.Attribute (.Name "self" q1) "one" q2] (.Name "one" q3) q4, .Assign [.Attribute (.Name "self" r1) "other" r2] (.Name "other" r3) r4]
def sJ_one_other : Scope := { kind := .function, names := [(PySem.Str.ofString "self", .local), (PySem.Str.ofString "one", .local), (PySem.Str.ofString "other", .local)], isGenerator := false, isCoroutine := false, more := [] }
structure XF_one_other (K : Frag) (C fI : Addr) : Prop where
  noA : findIn K (.ref C) "one" = some none
  noB : findIn K (.ref C) "other" = some none
  fn : ∃ (oc : Value) (od : Option Addr) (doc pm : Value) (an : Option Addr) (cdv ct : Value) (osl : Array (Option Value)) (qual : Str) (p1 p2 p3 q1 q2 q3 q4 r1 r2 r3 r4 : Pos),
    K.lookup fI = some ⟨oc, od, .func (fnOf "__init__" qual (aJ_one_other p1 p2 p3) (bJ_one_other q1 q2 q3 q4 r1 r2 r3 r4) sJ_one_other .none .none doc pm an cdv ct), osl⟩ ∧ codeIn K cdv qual = true
def mJ_one_other (u v : Value) : Str → Option Value := fun y => if y = "other" then some v else if y = "one" then some u else none
theorem run_one_other (T : XB K C bmB newId) (b : Bs B newId initId bmB) (F : XF_one_other K C fI) {x t0 : Addr} {u v : Value} (X : K.In s.heap) (nl : s.heap.NoLimit) (at_x : s.heap.get? x = some (excO C t0)) (out : K.lookup x = none) (room : A.depth < recursionLimit)
    (ok : ∀ h' tk dx, Made s.heap h' x C dx t0 (mJ_one_other u v) → R (.ok (.ret .none)) { s with heap := h', toks := tk }) : codeAny (model prog w) A (.call (.ref fI) ⟨[.ref x], [(("other" : Str), v), (("one" : Str), u)]⟩) R s := by
  obtain ⟨oc, od, doc, pm, an, cdv, ct, osl, qual, p1, p2, p3, q1, q2, q3, q4, r1, r2, r3, r4, ho, hcd⟩ := F.fn
  obtain ⟨cd, hcl, pass, hh⟩ := T.data b
  have bd : BindsTo s (fnOf "__init__" qual (aJ_one_other p1 p2 p3) (bJ_one_other q1 q2 q3 q4 r1 r2 r3 r4) sJ_one_other .none .none doc pm an cdv ct) ⟨[.ref x], [(("other" : Str), v), (("one" : Str), u)]⟩ [("self", .ref x), ("one", u), ("other", v)] := BindsTo.of_eq (by first | rfl | with_unfolding_all rfl)
  refine Att.call_fn (binds := [("self", .ref x), ("one", u), ("other", v)]) X nl ho hcd room bd (by first | rfl | decide | with_unfolding_all rfl) (fun s₁ IC => ?_) rfl rfl rfl
  obtain ⟨h₁, tk₁, rfl⟩ := IC.toInCall.same
  have old : ∀ b o, s.heap.get? b = some o → h₁.get? b = some o := IC.toInCall.keep
  have nsL := IC.toInCall.ns
  have Y : K.In h₁ := X.keeps old
  show wpAny _ _ (execs _ _) _ _ _
  refine wpAny_execs_cons (plainObj_wpAny_Assign_Attribute (ldN (v := u) nsL (by first | rfl | with_unfolding_all rfl | kernel_rfl) (ldN (v := .ref x) nsL (by first | rfl | with_unfolding_all rfl | kernel_rfl) ?_)))
  refine set_plain Y (ox := excO C t0) (od := none) ⟨old _ _ at_x, rfl, rfl, trivial⟩ T.sa (own_new Y (old _ _ at_x) hcl (pass _) T.ec.ob hh F.noA fun h₃ tk₃ dx k₃ dn dne at3 ns3 => ?_)
  have neL : s.heap.objs.size ≠ x := Nat.ne_of_gt (Heap.lt_size at_x)
  have nsL3 := nsL.at fun o e => k₃ _ o neL e
  have Z : K.In h₃ := fun b o e => k₃ b o (fun z => by rw [z] at e; rw [out] at e; cases e) (Y b o e)
  have wi : Within (fun y => if y = ("one" : Str) then some u else none) ["one"] := fun y hy => by
    by_cases c : y = ("one" : Str)
    · rw [c]; exact List.mem_cons_self
    · exact absurd (if_neg c) hy
  obtain ⟨oD, _, _, at_d, _, _⟩ := ns3.count wi
  refine wpAny_execs_cons (plainObj_wpAny_Assign_Attribute (ldN (v := v) nsL3 (by first | rfl | with_unfolding_all rfl | kernel_rfl) (ldN (v := .ref x) nsL3 (by first | rfl | with_unfolding_all rfl | kernel_rfl) ?_)))
  refine set_plain Z (ox := { cls := .ref C, dict := some dx, data := .fields #[.ref t0, .none, .none, .none, .bool false, .none] }) (od := some oD) ⟨at3, rfl, rfl, at_d⟩ T.sa (own_old Z at3 ns3 wi (by decide) hcl (pass _) T.ec.ob hh F.noB fun h₄ tk₄ k₄ ns4 => ?_)
  show wpAny _ _ (execs _ _) _ _ _
  have low : s.heap.objs.size ≤ dx := Nat.le_of_lt (Nat.lt_of_lt_of_le nsL.lt dn)
  refine wpAny_execs_nil (ok h₄ tk₄ dx ⟨fun b o hb e => k₄ b o ?_ (k₃ b o hb (old b o e)), k₄ _ _ dne.symm at3, low, dne, ns4⟩)
  exact Nat.ne_of_lt (Nat.lt_of_lt_of_le (Heap.lt_size e) low)

def aJ_what_limit (p1 p2 p3 : Pos) : Arguments := { posonlyargs := [], args := [{ arg := "self", annotation := none, pos := p1 }, { arg := "what", annotation := none, pos := p2 }, { arg := "limit", annotation := none, pos := p3 }], vararg := none, kwonlyargs := [], kw_defaults := [], kwarg := none, defaults := [] }
def bJ_what_limit (q1 q2 q3 q4 r1 r2 r3 r4 : Pos) : List Stmt := [.Assign [.Attribute (.Name "self" q1) "what" q2] (.Name "what" q3) q4, .Assign [.Attribute (.Name "self" r1) "limit" r2] (.Name "limit" r3) r4]
def sJ_what_limit : Scope := { kind := .function, names := [(PySem.Str.ofString "self", .local), (PySem.Str.ofString "what", .local), (PySem.Str.ofString "limit", .local)], isGenerator := false, isCoroutine := false, more := [] }
structure XF_what_limit (K : Frag) (C fI : Addr) : Prop where
  noA : findIn K (.ref C) "what" = some none
  noB : findIn K (.ref C) "limit" = some none
  fn : ∃ (oc : Value) (od : Option Addr) (doc pm : Value) (an : Option Addr) (cdv ct : Value) (osl : Array (Option Value)) (qual : Str) (p1 p2 p3 q1 q2 q3 q4 r1 r2 r3 r4 : Pos),
    K.lookup fI = some ⟨oc, od, .func (fnOf "__init__" qual (aJ_what_limit p1 p2 p3) (bJ_what_limit q1 q2 q3 q4 r1 r2 r3 r4) sJ_what_limit .none .none doc pm an cdv ct), osl⟩ ∧ codeIn K cdv qual = true
def mJ_what_limit (u v : Value) : Str → Option Value := fun y => if y = "limit" then some v else if y = "what" then some u else none
theorem run_what_limit (T : XB K C bmB newId) (b : Bs B newId initId bmB) (F : XF_what_limit K C fI) {x t0 : Addr} {u v : Value} (X : K.In s.heap) (nl : s.heap.NoLimit) (at_x : s.heap.get? x = some (excO C t0)) (out : K.lookup x = none) (room : A.depth < recursionLimit)
    (ok : ∀ h' tk dx, Made s.heap h' x C dx t0 (mJ_what_limit u v) → R (.ok (.ret .none)) { s with heap := h', toks := tk }) : codeAny (model prog w) A (.call (.ref fI) ⟨[.ref x], [(("limit" : Str), v), (("what" : Str), u)]⟩) R s := by
  obtain ⟨oc, od, doc, pm, an, cdv, ct, osl, qual, p1, p2, p3, q1, q2, q3, q4, r1, r2, r3, r4, ho, hcd⟩ := F.fn
  obtain ⟨cd, hcl, pass, hh⟩ := T.data b
  have bd : BindsTo s (fnOf "__init__" qual (aJ_what_limit p1 p2 p3) (bJ_what_limit q1 q2 q3 q4 r1 r2 r3 r4) sJ_what_limit .none .none doc pm an cdv ct) ⟨[.ref x], [(("limit" : Str), v), (("what" : Str), u)]⟩ [("self", .ref x), ("what", u), ("limit", v)] := BindsTo.of_eq (by first | rfl | with_unfolding_all rfl)
  refine Att.call_fn (binds := [("self", .ref x), ("what", u), ("limit", v)]) X nl ho hcd room bd (by first | rfl | decide | with_unfolding_all rfl) (fun s₁ IC => ?_) rfl rfl rfl
  obtain ⟨h₁, tk₁, rfl⟩ := IC.toInCall.same
  have old : ∀ b o, s.heap.get? b = some o → h₁.get? b = some o := IC.toInCall.keep
  have nsL := IC.toInCall.ns
  have Y : K.In h₁ := X.keeps old
  show wpAny _ _ (execs _ _) _ _ _
  refine wpAny_execs_cons (plainObj_wpAny_Assign_Attribute (ldN (v := u) nsL (by first | rfl | with_unfolding_all rfl | kernel_rfl) (ldN (v := .ref x) nsL (by first | rfl | with_unfolding_all rfl | kernel_rfl) ?_)))
  refine set_plain Y (ox := excO C t0) (od := none) ⟨old _ _ at_x, rfl, rfl, trivial⟩ T.sa (own_new Y (old _ _ at_x) hcl (pass _) T.ec.ob hh F.noA fun h₃ tk₃ dx k₃ dn dne at3 ns3 => ?_)
  have neL : s.heap.objs.size ≠ x := Nat.ne_of_gt (Heap.lt_size at_x)
  have nsL3 := nsL.at fun o e => k₃ _ o neL e
  have Z : K.In h₃ := fun b o e => k₃ b o (fun z => by rw [z] at e; rw [out] at e; cases e) (Y b o e)
  have wi : Within (fun y => if y = ("what" : Str) then some u else none) ["what"] := fun y hy => by
    by_cases c : y = ("what" : Str)
    · rw [c]; exact List.mem_cons_self
    · exact absurd (if_neg c) hy
  obtain ⟨oD, _, _, at_d, _, _⟩ := ns3.count wi
  refine wpAny_execs_cons (plainObj_wpAny_Assign_Attribute (ldN (v := v) nsL3 (by first | rfl | with_unfolding_all rfl | kernel_rfl) (ldN (v := .ref x) nsL3 (by first | rfl | with_unfolding_all rfl | kernel_rfl) ?_)))
  refine set_plain Z (ox := { cls := .ref C, dict := some dx, data := .fields #[.ref t0, .none, .none, .none, .bool false, .none] }) (od := some oD) ⟨at3, rfl, rfl, at_d⟩ T.sa (own_old Z at3 ns3 wi (by decide) hcl (pass _) T.ec.ob hh F.noB fun h₄ tk₄ k₄ ns4 => ?_)
  show wpAny _ _ (execs _ _) _ _ _
  have low : s.heap.objs.size ≤ dx := Nat.le_of_lt (Nat.lt_of_lt_of_le nsL.lt dn)
  refine wpAny_execs_nil (ok h₄ tk₄ dx ⟨fun b o hb e => k₄ b o ?_ (k₃ b o hb (old b o e)), k₄ _ _ dne.symm at3, low, dne, ns4⟩)
  exact Nat.ne_of_lt (Nat.lt_of_lt_of_le (Heap.lt_size e) low)
end
end K11
end

section
set_option maxHeartbeats 4000000
/-! own exceptions as values: made, asked, read; raised -/
namespace K11
open PySem PySem.Spec PyProof.Rows L2
/-- the exception at a of the class C, its fields at d -/
def put2 (H : Hp) (a C d : Addr) (fs : List (Str × V)) : Hp := upd (upd H d (exd d fs)) a (exo a C (some d))
section
variable {X : Cx} {C fI : Addr} {bmB : List Value} {B newId initId : String} {x : Str} {p pos : Pos}
theorem held {pins : List (Addr × Obj)} {σ : L2.St} {H : Hp} {s : Shared} {h' : Heap} {e d : Addr} {m : Str → Option Value} {fs : List (Str × V)} {tk : Nat} (I : L2.Inv X pins σ H s) (M : Born s.heap h' e C d m) (rel : ∀ f, RelO (fs.lookup f) (m f)) :
    L2.Inv X pins σ (put2 H e C d fs) { s with heap := h', toks := tk } ∧ H e = none ∧ H d = none := by
  obtain ⟨G, g1, g2⟩ := restrict h' fun b => decide (b ≠ e)
  have gk : ∀ b, b ≠ e → G.get? b = h'.get? b := fun b hb => g1 b (decide_eq_true hb)
  have ge : G.get? e = none := g2 e (by simp)
  have old : ∀ b o, s.heap.get? b = some o → G.get? b = some o := fun b o q => (gk b (Nat.ne_of_lt (Nat.lt_of_lt_of_le (Heap.lt_size q) M.new))).trans (M.keep b o q)
  have up : ∀ b o, G.get? b = some o → h'.get? b = some o := fun b o q => by
    by_cases hb : b = e
    · rw [hb, ge] at q; cases q
    · exact (gk b hb).symm.trans q
  have he := I.hok.fresh M.new
  have hd := I.hok.fresh M.big
  obtain ⟨t1, ho⟩ := M.obj
  have I1 : L2.Inv X pins σ (upd H d (exd d fs)) { s with heap := G, toks := tk } := I.laid old M.big (exd_ok (M.ns.at fun o q => (gk d M.ne).trans q) rel)
  have n2 : upd H d (exd d fs) e = none := by rw [upd_ne M.ne.symm]; exact he
  exact ⟨I1.laidN (t' := tk) up ge n2 (exo_ok ho), he, hd⟩
theorem rel1 {f : Str} {y : V} {v : Value} (r : RelV y v) (g : Str) : RelO (List.lookup g [(f, y)]) (if g = f then some v else none) := by
  have := relO_put (fs := []) (mA := fun _ => none) r (fun _ => True.intro) (f := f) g
  exact this
theorem rel2 {a b : Str} {y z : V} {u v : Value} (r : RelV y u) (q : RelV z v) (g : Str) : RelO (List.lookup g [(b, z), (a, y)]) (if g = b then some v else if g = a then some u else none) := relO_put q (fun g => rel1 r g) g

/-- C(e), C(value = e), as a value -/
def tV_value (C : Addr) (ta : TA) : TE := fun σ H Q => ta σ H fun vs H1 => ∃ y, vs = [y] ∧ ∀ a d, H1 a = none → H1 d = none → d ≠ a → Q (.ref a) (put2 H1 a C d [(("value" : Str), y)])
theorem call_value (T : XB X.K C bmB newId) (b : Bs B newId initId bmB) (J : XI X.K C fI) (F : XF_value X.K C fI) {pins : List (Addr × Obj)} {σ : L2.St} {H : Hp} {s : Shared} {Q : VK} {y : V} {v : Value} {ps : List Value} {kw : List (Str × Value)} (form : (ps = [v] ∧ kw = []) ∨ (ps = [] ∧ kw = [(("value" : Str), v)]))
    (I : L2.Inv X pins σ H s) (r : RelV y v) (room : X.A.depth + 1 < recursionLimit) (q : ∀ a d, H a = none → H d = none → d ≠ a → Q (.ref a) (put2 H a C d [(("value" : Str), y)])) : wpAny (model X.prog X.w) X.A (call (.ref C) ps kw) (EP X pins σ Q) X.xe s := by
  have few : ps.length ≤ sizeLine := by
    rcases form with ⟨rfl, _⟩ | ⟨rfl, _⟩
    · show 1 ≤ sizeLine; decide
    · exact Nat.zero_le _
  refine wpAny_call (born_of T b J I.kIn few (fun A' R' s1 x t1 h1 h2 h3 h4 h5 h6 => run_value T b F form h1 h2 h3 h4 h5 h6) I.nolimit room fun h' tk e d M => ?_)
  obtain ⟨I2, he, hd⟩ := held (tk := tk) I M (rel1 r)
  exact ⟨.ref e, _, I2, rfl, q e d he hd M.ne⟩
theorem pe_value {e : Expr} {ta : TA} {k : Nat} (T : XB X.K C bmB newId) (b : Bs B newId initId bmB) (J : XI X.K C fI) (F : XF_value X.K C fI) (hr : Room k X.A) (hg : Gl X x) (hm : X.mg x = some (.ref C)) (he : PA X [e] ta) (hdb : (x == ("__debug__" : Str)) = false := by decide)
    (hs : starEach [e] X.env = (false, eval e X.env) :: starEach [] X.env := by rfl) (hpl : (backTo pos (starEach [] X.env)).any (·.1) = false := by rfl) : PE X (.Call (.Name x p) [e] [] pos) (tV_value C ta) := by
  refine ⟨fun pins s σ H Q I h => wpAny_Call_Name_kw (ld_glob I hg hm ?_ hdb)⟩
  refine PySem.W.callWith_K (h₀ := X.base) I.ok.mod.kin T.kp (thn (he.run pos pins s σ H _ I h) fun us s1 hh => ?_) hs hpl
  obtain ⟨vs, H1, I1, r, y, rfl, q⟩ := hh
  cases r with
  | cons r0 rr =>
    cases rr
    exact ⟨I1.kIn, call_value T b J F (.inl ⟨rfl, rfl⟩) I1 r0 (by have := hr.dp; omega) q⟩
theorem pe_valueK {e : Expr} {ta : TA} {k : Nat} {kp : Pos} (T : XB X.K C bmB newId) (b : Bs B newId initId bmB) (J : XI X.K C fI) (F : XF_value X.K C fI) (hr : Room k X.A) (hg : Gl X x) (hm : X.mg x = some (.ref C)) (he : PK X [⟨some "value", e, kp⟩] ta) (hdb : (x == ("__debug__" : Str)) = false := by decide)
    (hpl : ((backTo pos (starEach [] X.env)).any (·.1) || (backToKw pos (keywordEach [⟨some "value", e, kp⟩] X.env)).any (·.1.isNone)) = false := by rfl) : PE X (.Call (.Name x p) [] [⟨some "value", e, kp⟩] pos) (tV_value C ta) := by
  refine ⟨fun pins s σ H Q I h => wpAny_Call_Name_kw (ld_glob I hg hm ?_ hdb)⟩
  refine PySem.W.callWith_KW0 (h₀ := X.base) I.ok.mod.kin T.kp (by rfl) (thn (he.run pos pins s σ H _ I h) fun us s1 hh => ?_) hpl
  obtain ⟨vs, H1, I1, r, y, rfl, q⟩ := hh
  cases r with
  | cons r0 rr =>
    cases rr
    exact ⟨I1.kIn, call_value T b J F (.inr ⟨rfl, rfl⟩) I1 r0 (by have := hr.dp; omega) q⟩

/-- C(e), C(position = e), as a value -/
def tV_position (C : Addr) (ta : TA) : TE := fun σ H Q => ta σ H fun vs H1 => ∃ y, vs = [y] ∧ ∀ a d, H1 a = none → H1 d = none → d ≠ a → Q (.ref a) (put2 H1 a C d [(("position" : Str), y)])
theorem call_position (T : XB X.K C bmB newId) (b : Bs B newId initId bmB) (J : XI X.K C fI) (F : XF_position X.K C fI) {pins : List (Addr × Obj)} {σ : L2.St} {H : Hp} {s : Shared} {Q : VK} {y : V} {v : Value} {ps : List Value} {kw : List (Str × Value)} (form : (ps = [v] ∧ kw = []) ∨ (ps = [] ∧ kw = [(("position" : Str), v)]))
    (I : L2.Inv X pins σ H s) (r : RelV y v) (room : X.A.depth + 1 < recursionLimit) (q : ∀ a d, H a = none → H d = none → d ≠ a → Q (.ref a) (put2 H a C d [(("position" : Str), y)])) : wpAny (model X.prog X.w) X.A (call (.ref C) ps kw) (EP X pins σ Q) X.xe s := by
  have few : ps.length ≤ sizeLine := by
    rcases form with ⟨rfl, _⟩ | ⟨rfl, _⟩
    · show 1 ≤ sizeLine; decide
    · exact Nat.zero_le _
  refine wpAny_call (born_of T b J I.kIn few (fun A' R' s1 x t1 h1 h2 h3 h4 h5 h6 => run_position T b F form h1 h2 h3 h4 h5 h6) I.nolimit room fun h' tk e d M => ?_)
  obtain ⟨I2, he, hd⟩ := held (tk := tk) I M (rel1 r)
  exact ⟨.ref e, _, I2, rfl, q e d he hd M.ne⟩
theorem pe_position {e : Expr} {ta : TA} {k : Nat} (T : XB X.K C bmB newId) (b : Bs B newId initId bmB) (J : XI X.K C fI) (F : XF_position X.K C fI) (hr : Room k X.A) (hg : Gl X x) (hm : X.mg x = some (.ref C)) (he : PA X [e] ta) (hdb : (x == ("__debug__" : Str)) = false := by decide)
    (hs : starEach [e] X.env = (false, eval e X.env) :: starEach [] X.env := by rfl) (hpl : (backTo pos (starEach [] X.env)).any (·.1) = false := by rfl) : PE X (.Call (.Name x p) [e] [] pos) (tV_position C ta) := by
  refine ⟨fun pins s σ H Q I h => wpAny_Call_Name_kw (ld_glob I hg hm ?_ hdb)⟩
  refine PySem.W.callWith_K (h₀ := X.base) I.ok.mod.kin T.kp (thn (he.run pos pins s σ H _ I h) fun us s1 hh => ?_) hs hpl
  obtain ⟨vs, H1, I1, r, y, rfl, q⟩ := hh
  cases r with
  | cons r0 rr =>
    cases rr
    exact ⟨I1.kIn, call_position T b J F (.inl ⟨rfl, rfl⟩) I1 r0 (by have := hr.dp; omega) q⟩
theorem pe_positionK {e : Expr} {ta : TA} {k : Nat} {kp : Pos} (T : XB X.K C bmB newId) (b : Bs B newId initId bmB) (J : XI X.K C fI) (F : XF_position X.K C fI) (hr : Room k X.A) (hg : Gl X x) (hm : X.mg x = some (.ref C)) (he : PK X [⟨some "position", e, kp⟩] ta) (hdb : (x == ("__debug__" : Str)) = false := by decide)
    (hpl : ((backTo pos (starEach [] X.env)).any (·.1) || (backToKw pos (keywordEach [⟨some "position", e, kp⟩] X.env)).any (·.1.isNone)) = false := by rfl) : PE X (.Call (.Name x p) [] [⟨some "position", e, kp⟩] pos) (tV_position C ta) := by
  refine ⟨fun pins s σ H Q I h => wpAny_Call_Name_kw (ld_glob I hg hm ?_ hdb)⟩
  refine PySem.W.callWith_KW0 (h₀ := X.base) I.ok.mod.kin T.kp (by rfl) (thn (he.run pos pins s σ H _ I h) fun us s1 hh => ?_) hpl
  obtain ⟨vs, H1, I1, r, y, rfl, q⟩ := hh
  cases r with
  | cons r0 rr =>
    cases rr
    exact ⟨I1.kIn, call_position T b J F (.inr ⟨rfl, rfl⟩) I1 r0 (by have := hr.dp; omega) q⟩

/-- C(e), C(sign = e), as a value -/
def tV_sign (C : Addr) (ta : TA) : TE := fun σ H Q => ta σ H fun vs H1 => ∃ y, vs = [y] ∧ ∀ a d, H1 a = none → H1 d = none → d ≠ a → Q (.ref a) (put2 H1 a C d [(("sign" : Str), y)])
theorem call_sign (T : XB X.K C bmB newId) (b : Bs B newId initId bmB) (J : XI X.K C fI) (F : XF_sign X.K C fI) {pins : List (Addr × Obj)} {σ : L2.St} {H : Hp} {s : Shared} {Q : VK} {y : V} {v : Value} {ps : List Value} {kw : List (Str × Value)} (form : (ps = [v] ∧ kw = []) ∨ (ps = [] ∧ kw = [(("sign" : Str), v)]))
    (I : L2.Inv X pins σ H s) (r : RelV y v) (room : X.A.depth + 1 < recursionLimit) (q : ∀ a d, H a = none → H d = none → d ≠ a → Q (.ref a) (put2 H a C d [(("sign" : Str), y)])) : wpAny (model X.prog X.w) X.A (call (.ref C) ps kw) (EP X pins σ Q) X.xe s := by
  have few : ps.length ≤ sizeLine := by
    rcases form with ⟨rfl, _⟩ | ⟨rfl, _⟩
    · show 1 ≤ sizeLine; decide
    · exact Nat.zero_le _
  refine wpAny_call (born_of T b J I.kIn few (fun A' R' s1 x t1 h1 h2 h3 h4 h5 h6 => run_sign T b F form h1 h2 h3 h4 h5 h6) I.nolimit room fun h' tk e d M => ?_)
  obtain ⟨I2, he, hd⟩ := held (tk := tk) I M (rel1 r)
  exact ⟨.ref e, _, I2, rfl, q e d he hd M.ne⟩
theorem pe_sign {e : Expr} {ta : TA} {k : Nat} (T : XB X.K C bmB newId) (b : Bs B newId initId bmB) (J : XI X.K C fI) (F : XF_sign X.K C fI) (hr : Room k X.A) (hg : Gl X x) (hm : X.mg x = some (.ref C)) (he : PA X [e] ta) (hdb : (x == ("__debug__" : Str)) = false := by decide)
    (hs : starEach [e] X.env = (false, eval e X.env) :: starEach [] X.env := by rfl) (hpl : (backTo pos (starEach [] X.env)).any (·.1) = false := by rfl) : PE X (.Call (.Name x p) [e] [] pos) (tV_sign C ta) := by
  refine ⟨fun pins s σ H Q I h => wpAny_Call_Name_kw (ld_glob I hg hm ?_ hdb)⟩
  refine PySem.W.callWith_K (h₀ := X.base) I.ok.mod.kin T.kp (thn (he.run pos pins s σ H _ I h) fun us s1 hh => ?_) hs hpl
  obtain ⟨vs, H1, I1, r, y, rfl, q⟩ := hh
  cases r with
  | cons r0 rr =>
    cases rr
    exact ⟨I1.kIn, call_sign T b J F (.inl ⟨rfl, rfl⟩) I1 r0 (by have := hr.dp; omega) q⟩
theorem pe_signK {e : Expr} {ta : TA} {k : Nat} {kp : Pos} (T : XB X.K C bmB newId) (b : Bs B newId initId bmB) (J : XI X.K C fI) (F : XF_sign X.K C fI) (hr : Room k X.A) (hg : Gl X x) (hm : X.mg x = some (.ref C)) (he : PK X [⟨some "sign", e, kp⟩] ta) (hdb : (x == ("__debug__" : Str)) = false := by decide)
    (hpl : ((backTo pos (starEach [] X.env)).any (·.1) || (backToKw pos (keywordEach [⟨some "sign", e, kp⟩] X.env)).any (·.1.isNone)) = false := by rfl) : PE X (.Call (.Name x p) [] [⟨some "sign", e, kp⟩] pos) (tV_sign C ta) := by
  refine ⟨fun pins s σ H Q I h => wpAny_Call_Name_kw (ld_glob I hg hm ?_ hdb)⟩
  refine PySem.W.callWith_KW0 (h₀ := X.base) I.ok.mod.kin T.kp (by rfl) (thn (he.run pos pins s σ H _ I h) fun us s1 hh => ?_) hpl
  obtain ⟨vs, H1, I1, r, y, rfl, q⟩ := hh
  cases r with
  | cons r0 rr =>
    cases rr
    exact ⟨I1.kIn, call_sign T b J F (.inr ⟨rfl, rfl⟩) I1 r0 (by have := hr.dp; omega) q⟩

/-- C(e), C(line = e), as a value -/
def tV_line (C : Addr) (ta : TA) : TE := fun σ H Q => ta σ H fun vs H1 => ∃ y, vs = [y] ∧ ∀ a d, H1 a = none → H1 d = none → d ≠ a → Q (.ref a) (put2 H1 a C d [(("line" : Str), y)])
theorem call_line (T : XB X.K C bmB newId) (b : Bs B newId initId bmB) (J : XI X.K C fI) (F : XF_line X.K C fI) {pins : List (Addr × Obj)} {σ : L2.St} {H : Hp} {s : Shared} {Q : VK} {y : V} {v : Value} {ps : List Value} {kw : List (Str × Value)} (form : (ps = [v] ∧ kw = []) ∨ (ps = [] ∧ kw = [(("line" : Str), v)]))
    (I : L2.Inv X pins σ H s) (r : RelV y v) (room : X.A.depth + 1 < recursionLimit) (q : ∀ a d, H a = none → H d = none → d ≠ a → Q (.ref a) (put2 H a C d [(("line" : Str), y)])) : wpAny (model X.prog X.w) X.A (call (.ref C) ps kw) (EP X pins σ Q) X.xe s := by
  have few : ps.length ≤ sizeLine := by
    rcases form with ⟨rfl, _⟩ | ⟨rfl, _⟩
    · show 1 ≤ sizeLine; decide
    · exact Nat.zero_le _
  refine wpAny_call (born_of T b J I.kIn few (fun A' R' s1 x t1 h1 h2 h3 h4 h5 h6 => run_line T b F form h1 h2 h3 h4 h5 h6) I.nolimit room fun h' tk e d M => ?_)
  obtain ⟨I2, he, hd⟩ := held (tk := tk) I M (rel1 r)
  exact ⟨.ref e, _, I2, rfl, q e d he hd M.ne⟩
theorem pe_line {e : Expr} {ta : TA} {k : Nat} (T : XB X.K C bmB newId) (b : Bs B newId initId bmB) (J : XI X.K C fI) (F : XF_line X.K C fI) (hr : Room k X.A) (hg : Gl X x) (hm : X.mg x = some (.ref C)) (he : PA X [e] ta) (hdb : (x == ("__debug__" : Str)) = false := by decide)
    (hs : starEach [e] X.env = (false, eval e X.env) :: starEach [] X.env := by rfl) (hpl : (backTo pos (starEach [] X.env)).any (·.1) = false := by rfl) : PE X (.Call (.Name x p) [e] [] pos) (tV_line C ta) := by
  refine ⟨fun pins s σ H Q I h => wpAny_Call_Name_kw (ld_glob I hg hm ?_ hdb)⟩
  refine PySem.W.callWith_K (h₀ := X.base) I.ok.mod.kin T.kp (thn (he.run pos pins s σ H _ I h) fun us s1 hh => ?_) hs hpl
  obtain ⟨vs, H1, I1, r, y, rfl, q⟩ := hh
  cases r with
  | cons r0 rr =>
    cases rr
    exact ⟨I1.kIn, call_line T b J F (.inl ⟨rfl, rfl⟩) I1 r0 (by have := hr.dp; omega) q⟩
theorem pe_lineK {e : Expr} {ta : TA} {k : Nat} {kp : Pos} (T : XB X.K C bmB newId) (b : Bs B newId initId bmB) (J : XI X.K C fI) (F : XF_line X.K C fI) (hr : Room k X.A) (hg : Gl X x) (hm : X.mg x = some (.ref C)) (he : PK X [⟨some "line", e, kp⟩] ta) (hdb : (x == ("__debug__" : Str)) = false := by decide)
    (hpl : ((backTo pos (starEach [] X.env)).any (·.1) || (backToKw pos (keywordEach [⟨some "line", e, kp⟩] X.env)).any (·.1.isNone)) = false := by rfl) : PE X (.Call (.Name x p) [] [⟨some "line", e, kp⟩] pos) (tV_line C ta) := by
  refine ⟨fun pins s σ H Q I h => wpAny_Call_Name_kw (ld_glob I hg hm ?_ hdb)⟩
  refine PySem.W.callWith_KW0 (h₀ := X.base) I.ok.mod.kin T.kp (by rfl) (thn (he.run pos pins s σ H _ I h) fun us s1 hh => ?_) hpl
  obtain ⟨vs, H1, I1, r, y, rfl, q⟩ := hh
  cases r with
  | cons r0 rr =>
    cases rr
    exact ⟨I1.kIn, call_line T b J F (.inr ⟨rfl, rfl⟩) I1 r0 (by have := hr.dp; omega) q⟩

/-- C(e), C(paper = e), as a value -/
def tV_paper (C : Addr) (ta : TA) : TE := fun σ H Q => ta σ H fun vs H1 => ∃ y, vs = [y] ∧ ∀ a d, H1 a = none → H1 d = none → d ≠ a → Q (.ref a) (put2 H1 a C d [(("paper" : Str), y)])
theorem call_paper (T : XB X.K C bmB newId) (b : Bs B newId initId bmB) (J : XI X.K C fI) (F : XF_paper X.K C fI) {pins : List (Addr × Obj)} {σ : L2.St} {H : Hp} {s : Shared} {Q : VK} {y : V} {v : Value} {ps : List Value} {kw : List (Str × Value)} (form : (ps = [v] ∧ kw = []) ∨ (ps = [] ∧ kw = [(("paper" : Str), v)]))
    (I : L2.Inv X pins σ H s) (r : RelV y v) (room : X.A.depth + 1 < recursionLimit) (q : ∀ a d, H a = none → H d = none → d ≠ a → Q (.ref a) (put2 H a C d [(("paper" : Str), y)])) : wpAny (model X.prog X.w) X.A (call (.ref C) ps kw) (EP X pins σ Q) X.xe s := by
  have few : ps.length ≤ sizeLine := by
    rcases form with ⟨rfl, _⟩ | ⟨rfl, _⟩
    · show 1 ≤ sizeLine; decide
    · exact Nat.zero_le _
  refine wpAny_call (born_of T b J I.kIn few (fun A' R' s1 x t1 h1 h2 h3 h4 h5 h6 => run_paper T b F form h1 h2 h3 h4 h5 h6) I.nolimit room fun h' tk e d M => ?_)
  obtain ⟨I2, he, hd⟩ := held (tk := tk) I M (rel1 r)
  exact ⟨.ref e, _, I2, rfl, q e d he hd M.ne⟩
theorem pe_paper {e : Expr} {ta : TA} {k : Nat} (T : XB X.K C bmB newId) (b : Bs B newId initId bmB) (J : XI X.K C fI) (F : XF_paper X.K C fI) (hr : Room k X.A) (hg : Gl X x) (hm : X.mg x = some (.ref C)) (he : PA X [e] ta) (hdb : (x == ("__debug__" : Str)) = false := by decide)
    (hs : starEach [e] X.env = (false, eval e X.env) :: starEach [] X.env := by rfl) (hpl : (backTo pos (starEach [] X.env)).any (·.1) = false := by rfl) : PE X (.Call (.Name x p) [e] [] pos) (tV_paper C ta) := by
  refine ⟨fun pins s σ H Q I h => wpAny_Call_Name_kw (ld_glob I hg hm ?_ hdb)⟩
  refine PySem.W.callWith_K (h₀ := X.base) I.ok.mod.kin T.kp (thn (he.run pos pins s σ H _ I h) fun us s1 hh => ?_) hs hpl
  obtain ⟨vs, H1, I1, r, y, rfl, q⟩ := hh
  cases r with
  | cons r0 rr =>
    cases rr
    exact ⟨I1.kIn, call_paper T b J F (.inl ⟨rfl, rfl⟩) I1 r0 (by have := hr.dp; omega) q⟩
theorem pe_paperK {e : Expr} {ta : TA} {k : Nat} {kp : Pos} (T : XB X.K C bmB newId) (b : Bs B newId initId bmB) (J : XI X.K C fI) (F : XF_paper X.K C fI) (hr : Room k X.A) (hg : Gl X x) (hm : X.mg x = some (.ref C)) (he : PK X [⟨some "paper", e, kp⟩] ta) (hdb : (x == ("__debug__" : Str)) = false := by decide)
    (hpl : ((backTo pos (starEach [] X.env)).any (·.1) || (backToKw pos (keywordEach [⟨some "paper", e, kp⟩] X.env)).any (·.1.isNone)) = false := by rfl) : PE X (.Call (.Name x p) [] [⟨some "paper", e, kp⟩] pos) (tV_paper C ta) := by
  refine ⟨fun pins s σ H Q I h => wpAny_Call_Name_kw (ld_glob I hg hm ?_ hdb)⟩
  refine PySem.W.callWith_KW0 (h₀ := X.base) I.ok.mod.kin T.kp (by rfl) (thn (he.run pos pins s σ H _ I h) fun us s1 hh => ?_) hpl
  obtain ⟨vs, H1, I1, r, y, rfl, q⟩ := hh
  cases r with
  | cons r0 rr =>
    cases rr
    exact ⟨I1.kIn, call_paper T b J F (.inr ⟨rfl, rfl⟩) I1 r0 (by have := hr.dp; omega) q⟩

/-- C(e), C(text = e), as a value -/
def tV_text (C : Addr) (ta : TA) : TE := fun σ H Q => ta σ H fun vs H1 => ∃ y, vs = [y] ∧ ∀ a d, H1 a = none → H1 d = none → d ≠ a → Q (.ref a) (put2 H1 a C d [(("text" : Str), y)])
theorem call_text (T : XB X.K C bmB newId) (b : Bs B newId initId bmB) (J : XI X.K C fI) (F : XF_text X.K C fI) {pins : List (Addr × Obj)} {σ : L2.St} {H : Hp} {s : Shared} {Q : VK} {y : V} {v : Value} {ps : List Value} {kw : List (Str × Value)} (form : (ps = [v] ∧ kw = []) ∨ (ps = [] ∧ kw = [(("text" : Str), v)]))
    (I : L2.Inv X pins σ H s) (r : RelV y v) (room : X.A.depth + 1 < recursionLimit) (q : ∀ a d, H a = none → H d = none → d ≠ a → Q (.ref a) (put2 H a C d [(("text" : Str), y)])) : wpAny (model X.prog X.w) X.A (call (.ref C) ps kw) (EP X pins σ Q) X.xe s := by
  have few : ps.length ≤ sizeLine := by
    rcases form with ⟨rfl, _⟩ | ⟨rfl, _⟩
    · show 1 ≤ sizeLine; decide
    · exact Nat.zero_le _
  refine wpAny_call (born_of T b J I.kIn few (fun A' R' s1 x t1 h1 h2 h3 h4 h5 h6 => run_text T b F form h1 h2 h3 h4 h5 h6) I.nolimit room fun h' tk e d M => ?_)
  obtain ⟨I2, he, hd⟩ := held (tk := tk) I M (rel1 r)
  exact ⟨.ref e, _, I2, rfl, q e d he hd M.ne⟩
theorem pe_text {e : Expr} {ta : TA} {k : Nat} (T : XB X.K C bmB newId) (b : Bs B newId initId bmB) (J : XI X.K C fI) (F : XF_text X.K C fI) (hr : Room k X.A) (hg : Gl X x) (hm : X.mg x = some (.ref C)) (he : PA X [e] ta) (hdb : (x == ("__debug__" : Str)) = false := by decide)
    (hs : starEach [e] X.env = (false, eval e X.env) :: starEach [] X.env := by rfl) (hpl : (backTo pos (starEach [] X.env)).any (·.1) = false := by rfl) : PE X (.Call (.Name x p) [e] [] pos) (tV_text C ta) := by
  refine ⟨fun pins s σ H Q I h => wpAny_Call_Name_kw (ld_glob I hg hm ?_ hdb)⟩
  refine PySem.W.callWith_K (h₀ := X.base) I.ok.mod.kin T.kp (thn (he.run pos pins s σ H _ I h) fun us s1 hh => ?_) hs hpl
  obtain ⟨vs, H1, I1, r, y, rfl, q⟩ := hh
  cases r with
  | cons r0 rr =>
    cases rr
    exact ⟨I1.kIn, call_text T b J F (.inl ⟨rfl, rfl⟩) I1 r0 (by have := hr.dp; omega) q⟩
theorem pe_textK {e : Expr} {ta : TA} {k : Nat} {kp : Pos} (T : XB X.K C bmB newId) (b : Bs B newId initId bmB) (J : XI X.K C fI) (F : XF_text X.K C fI) (hr : Room k X.A) (hg : Gl X x) (hm : X.mg x = some (.ref C)) (he : PK X [⟨some "text", e, kp⟩] ta) (hdb : (x == ("__debug__" : Str)) = false := by decide)
    (hpl : ((backTo pos (starEach [] X.env)).any (·.1) || (backToKw pos (keywordEach [⟨some "text", e, kp⟩] X.env)).any (·.1.isNone)) = false := by rfl) : PE X (.Call (.Name x p) [] [⟨some "text", e, kp⟩] pos) (tV_text C ta) := by
  refine ⟨fun pins s σ H Q I h => wpAny_Call_Name_kw (ld_glob I hg hm ?_ hdb)⟩
  refine PySem.W.callWith_KW0 (h₀ := X.base) I.ok.mod.kin T.kp (by rfl) (thn (he.run pos pins s σ H _ I h) fun us s1 hh => ?_) hpl
  obtain ⟨vs, H1, I1, r, y, rfl, q⟩ := hh
  cases r with
  | cons r0 rr =>
    cases rr
    exact ⟨I1.kIn, call_text T b J F (.inr ⟨rfl, rfl⟩) I1 r0 (by have := hr.dp; omega) q⟩

/-- C(e), C(clash = e), as a value -/
def tV_clash (C : Addr) (ta : TA) : TE := fun σ H Q => ta σ H fun vs H1 => ∃ y, vs = [y] ∧ ∀ a d, H1 a = none → H1 d = none → d ≠ a → Q (.ref a) (put2 H1 a C d [(("clash" : Str), y)])
theorem call_clash (T : XB X.K C bmB newId) (b : Bs B newId initId bmB) (J : XI X.K C fI) (F : XF_clash X.K C fI) {pins : List (Addr × Obj)} {σ : L2.St} {H : Hp} {s : Shared} {Q : VK} {y : V} {v : Value} {ps : List Value} {kw : List (Str × Value)} (form : (ps = [v] ∧ kw = []) ∨ (ps = [] ∧ kw = [(("clash" : Str), v)]))
    (I : L2.Inv X pins σ H s) (r : RelV y v) (room : X.A.depth + 1 < recursionLimit) (q : ∀ a d, H a = none → H d = none → d ≠ a → Q (.ref a) (put2 H a C d [(("clash" : Str), y)])) : wpAny (model X.prog X.w) X.A (call (.ref C) ps kw) (EP X pins σ Q) X.xe s := by
  have few : ps.length ≤ sizeLine := by
    rcases form with ⟨rfl, _⟩ | ⟨rfl, _⟩
    · show 1 ≤ sizeLine; decide
    · exact Nat.zero_le _
  refine wpAny_call (born_of T b J I.kIn few (fun A' R' s1 x t1 h1 h2 h3 h4 h5 h6 => run_clash T b F form h1 h2 h3 h4 h5 h6) I.nolimit room fun h' tk e d M => ?_)
  obtain ⟨I2, he, hd⟩ := held (tk := tk) I M (rel1 r)
  exact ⟨.ref e, _, I2, rfl, q e d he hd M.ne⟩
theorem pe_clash {e : Expr} {ta : TA} {k : Nat} (T : XB X.K C bmB newId) (b : Bs B newId initId bmB) (J : XI X.K C fI) (F : XF_clash X.K C fI) (hr : Room k X.A) (hg : Gl X x) (hm : X.mg x = some (.ref C)) (he : PA X [e] ta) (hdb : (x == ("__debug__" : Str)) = false := by decide)
    (hs : starEach [e] X.env = (false, eval e X.env) :: starEach [] X.env := by rfl) (hpl : (backTo pos (starEach [] X.env)).any (·.1) = false := by rfl) : PE X (.Call (.Name x p) [e] [] pos) (tV_clash C ta) := by
  refine ⟨fun pins s σ H Q I h => wpAny_Call_Name_kw (ld_glob I hg hm ?_ hdb)⟩
  refine PySem.W.callWith_K (h₀ := X.base) I.ok.mod.kin T.kp (thn (he.run pos pins s σ H _ I h) fun us s1 hh => ?_) hs hpl
  obtain ⟨vs, H1, I1, r, y, rfl, q⟩ := hh
  cases r with
  | cons r0 rr =>
    cases rr
    exact ⟨I1.kIn, call_clash T b J F (.inl ⟨rfl, rfl⟩) I1 r0 (by have := hr.dp; omega) q⟩
theorem pe_clashK {e : Expr} {ta : TA} {k : Nat} {kp : Pos} (T : XB X.K C bmB newId) (b : Bs B newId initId bmB) (J : XI X.K C fI) (F : XF_clash X.K C fI) (hr : Room k X.A) (hg : Gl X x) (hm : X.mg x = some (.ref C)) (he : PK X [⟨some "clash", e, kp⟩] ta) (hdb : (x == ("__debug__" : Str)) = false := by decide)
    (hpl : ((backTo pos (starEach [] X.env)).any (·.1) || (backToKw pos (keywordEach [⟨some "clash", e, kp⟩] X.env)).any (·.1.isNone)) = false := by rfl) : PE X (.Call (.Name x p) [] [⟨some "clash", e, kp⟩] pos) (tV_clash C ta) := by
  refine ⟨fun pins s σ H Q I h => wpAny_Call_Name_kw (ld_glob I hg hm ?_ hdb)⟩
  refine PySem.W.callWith_KW0 (h₀ := X.base) I.ok.mod.kin T.kp (by rfl) (thn (he.run pos pins s σ H _ I h) fun us s1 hh => ?_) hpl
  obtain ⟨vs, H1, I1, r, y, rfl, q⟩ := hh
  cases r with
  | cons r0 rr =>
    cases rr
    exact ⟨I1.kIn, call_clash T b J F (.inr ⟨rfl, rfl⟩) I1 r0 (by have := hr.dp; omega) q⟩

/-- C(e), C(name = e), as a value -/
def tV_name (C : Addr) (ta : TA) : TE := fun σ H Q => ta σ H fun vs H1 => ∃ y, vs = [y] ∧ ∀ a d, H1 a = none → H1 d = none → d ≠ a → Q (.ref a) (put2 H1 a C d [(("name" : Str), y)])
theorem call_name (T : XB X.K C bmB newId) (b : Bs B newId initId bmB) (J : XI X.K C fI) (F : XF_name X.K C fI) {pins : List (Addr × Obj)} {σ : L2.St} {H : Hp} {s : Shared} {Q : VK} {y : V} {v : Value} {ps : List Value} {kw : List (Str × Value)} (form : (ps = [v] ∧ kw = []) ∨ (ps = [] ∧ kw = [(("name" : Str), v)]))
    (I : L2.Inv X pins σ H s) (r : RelV y v) (room : X.A.depth + 1 < recursionLimit) (q : ∀ a d, H a = none → H d = none → d ≠ a → Q (.ref a) (put2 H a C d [(("name" : Str), y)])) : wpAny (model X.prog X.w) X.A (call (.ref C) ps kw) (EP X pins σ Q) X.xe s := by
  have few : ps.length ≤ sizeLine := by
    rcases form with ⟨rfl, _⟩ | ⟨rfl, _⟩
    · show 1 ≤ sizeLine; decide
    · exact Nat.zero_le _
  refine wpAny_call (born_of T b J I.kIn few (fun A' R' s1 x t1 h1 h2 h3 h4 h5 h6 => run_name T b F form h1 h2 h3 h4 h5 h6) I.nolimit room fun h' tk e d M => ?_)
  obtain ⟨I2, he, hd⟩ := held (tk := tk) I M (rel1 r)
  exact ⟨.ref e, _, I2, rfl, q e d he hd M.ne⟩
theorem pe_name {e : Expr} {ta : TA} {k : Nat} (T : XB X.K C bmB newId) (b : Bs B newId initId bmB) (J : XI X.K C fI) (F : XF_name X.K C fI) (hr : Room k X.A) (hg : Gl X x) (hm : X.mg x = some (.ref C)) (he : PA X [e] ta) (hdb : (x == ("__debug__" : Str)) = false := by decide)
    (hs : starEach [e] X.env = (false, eval e X.env) :: starEach [] X.env := by rfl) (hpl : (backTo pos (starEach [] X.env)).any (·.1) = false := by rfl) : PE X (.Call (.Name x p) [e] [] pos) (tV_name C ta) := by
  refine ⟨fun pins s σ H Q I h => wpAny_Call_Name_kw (ld_glob I hg hm ?_ hdb)⟩
  refine PySem.W.callWith_K (h₀ := X.base) I.ok.mod.kin T.kp (thn (he.run pos pins s σ H _ I h) fun us s1 hh => ?_) hs hpl
  obtain ⟨vs, H1, I1, r, y, rfl, q⟩ := hh
  cases r with
  | cons r0 rr =>
    cases rr
    exact ⟨I1.kIn, call_name T b J F (.inl ⟨rfl, rfl⟩) I1 r0 (by have := hr.dp; omega) q⟩
theorem pe_nameK {e : Expr} {ta : TA} {k : Nat} {kp : Pos} (T : XB X.K C bmB newId) (b : Bs B newId initId bmB) (J : XI X.K C fI) (F : XF_name X.K C fI) (hr : Room k X.A) (hg : Gl X x) (hm : X.mg x = some (.ref C)) (he : PK X [⟨some "name", e, kp⟩] ta) (hdb : (x == ("__debug__" : Str)) = false := by decide)
    (hpl : ((backTo pos (starEach [] X.env)).any (·.1) || (backToKw pos (keywordEach [⟨some "name", e, kp⟩] X.env)).any (·.1.isNone)) = false := by rfl) : PE X (.Call (.Name x p) [] [⟨some "name", e, kp⟩] pos) (tV_name C ta) := by
  refine ⟨fun pins s σ H Q I h => wpAny_Call_Name_kw (ld_glob I hg hm ?_ hdb)⟩
  refine PySem.W.callWith_KW0 (h₀ := X.base) I.ok.mod.kin T.kp (by rfl) (thn (he.run pos pins s σ H _ I h) fun us s1 hh => ?_) hpl
  obtain ⟨vs, H1, I1, r, y, rfl, q⟩ := hh
  cases r with
  | cons r0 rr =>
    cases rr
    exact ⟨I1.kIn, call_name T b J F (.inr ⟨rfl, rfl⟩) I1 r0 (by have := hr.dp; omega) q⟩

/-- C(high = e, low = e'), as a value -/
def tV_low_high (C : Addr) (ta : TA) : TE := fun σ H Q => ta σ H fun vs H1 => ∃ z y, vs = [z, y] ∧ ∀ a d, H1 a = none → H1 d = none → d ≠ a → Q (.ref a) (put2 H1 a C d [(("high" : Str), z), (("low" : Str), y)])
theorem pe_low_highK {e e2 : Expr} {ta : TA} {k : Nat} {kp kq : Pos} (T : XB X.K C bmB newId) (b : Bs B newId initId bmB) (J : XI X.K C fI) (F : XF_low_high X.K C fI) (hr : Room k X.A) (hg : Gl X x) (hm : X.mg x = some (.ref C)) (he : PK X [⟨some "high", e, kp⟩, ⟨some "low", e2, kq⟩] ta) (hdb : (x == ("__debug__" : Str)) = false := by decide)
    (hpl : ((backTo pos (starEach [] X.env)).any (·.1) || (backToKw pos (keywordEach [⟨some "high", e, kp⟩, ⟨some "low", e2, kq⟩] X.env)).any (·.1.isNone)) = false := by rfl) : PE X (.Call (.Name x p) [] [⟨some "high", e, kp⟩, ⟨some "low", e2, kq⟩] pos) (tV_low_high C ta) := by
  refine ⟨fun pins s σ H Q I h => wpAny_Call_Name_kw (ld_glob I hg hm ?_ hdb)⟩
  refine PySem.W.callWith_KW0 (h₀ := X.base) I.ok.mod.kin T.kp (by rfl) (thn (he.run pos pins s σ H _ I h) fun us s1 hh => ?_) hpl
  obtain ⟨vs, H1, I1, r, z, y, rfl, q⟩ := hh
  cases r with
  | @cons _ v0 _ ur r0 rr =>
    cases rr with
    | @cons _ v1 _ _ r1 rr =>
      cases rr
      refine ⟨I1.kIn, wpAny_call (born_of (rest := []) (kw := [(("high" : Str), v0), (("low" : Str), v1)]) T b J I1.kIn (Nat.zero_le _) (fun A' R' s1 x t1 h1 h2 h3 h4 h5 h6 => run_low_high (u := v1) (v := v0) T b F h1 h2 h3 h4 h5 h6) I1.nolimit (by have := hr.dp; omega) fun h' tk e d M => ?_)⟩
      obtain ⟨I2, he, hd⟩ := held (tk := tk) I1 M (rel2 r1 r0)
      exact ⟨.ref e, _, I2, rfl, q e d he hd M.ne⟩

/-- C(sign = e, state = e'), as a value -/
def tV_state_sign (C : Addr) (ta : TA) : TE := fun σ H Q => ta σ H fun vs H1 => ∃ z y, vs = [z, y] ∧ ∀ a d, H1 a = none → H1 d = none → d ≠ a → Q (.ref a) (put2 H1 a C d [(("sign" : Str), z), (("state" : Str), y)])
theorem pe_state_signK {e e2 : Expr} {ta : TA} {k : Nat} {kp kq : Pos} (T : XB X.K C bmB newId) (b : Bs B newId initId bmB) (J : XI X.K C fI) (F : XF_state_sign X.K C fI) (hr : Room k X.A) (hg : Gl X x) (hm : X.mg x = some (.ref C)) (he : PK X [⟨some "sign", e, kp⟩, ⟨some "state", e2, kq⟩] ta) (hdb : (x == ("__debug__" : Str)) = false := by decide)
    (hpl : ((backTo pos (starEach [] X.env)).any (·.1) || (backToKw pos (keywordEach [⟨some "sign", e, kp⟩, ⟨some "state", e2, kq⟩] X.env)).any (·.1.isNone)) = false := by rfl) : PE X (.Call (.Name x p) [] [⟨some "sign", e, kp⟩, ⟨some "state", e2, kq⟩] pos) (tV_state_sign C ta) := by
  refine ⟨fun pins s σ H Q I h => wpAny_Call_Name_kw (ld_glob I hg hm ?_ hdb)⟩
  refine PySem.W.callWith_KW0 (h₀ := X.base) I.ok.mod.kin T.kp (by rfl) (thn (he.run pos pins s σ H _ I h) fun us s1 hh => ?_) hpl
  obtain ⟨vs, H1, I1, r, z, y, rfl, q⟩ := hh
  cases r with
  | @cons _ v0 _ ur r0 rr =>
    cases rr with
    | @cons _ v1 _ _ r1 rr =>
      cases rr
      refine ⟨I1.kIn, wpAny_call (born_of (rest := []) (kw := [(("sign" : Str), v0), (("state" : Str), v1)]) T b J I1.kIn (Nat.zero_le _) (fun A' R' s1 x t1 h1 h2 h3 h4 h5 h6 => run_state_sign (u := v1) (v := v0) T b F h1 h2 h3 h4 h5 h6) I1.nolimit (by have := hr.dp; omega) fun h' tk e d M => ?_)⟩
      obtain ⟨I2, he, hd⟩ := held (tk := tk) I1 M (rel2 r1 r0)
      exact ⟨.ref e, _, I2, rfl, q e d he hd M.ne⟩

/-- C(other = e, one = e'), as a value -/
def tV_one_other (C : Addr) (ta : TA) : TE := fun σ H Q => ta σ H fun vs H1 => ∃ z y, vs = [z, y] ∧ ∀ a d, H1 a = none → H1 d = none → d ≠ a → Q (.ref a) (put2 H1 a C d [(("other" : Str), z), (("one" : Str), y)])
theorem pe_one_otherK {e e2 : Expr} {ta : TA} {k : Nat} {kp kq : Pos} (T : XB X.K C bmB newId) (b : Bs B newId initId bmB) (J : XI X.K C fI) (F : XF_one_other X.K C fI) (hr : Room k X.A) (hg : Gl X x) (hm : X.mg x = some (.ref C)) (he : PK X [⟨some "other", e, kp⟩, ⟨some "one", e2, kq⟩] ta) (hdb : (x == ("__debug__" : Str)) = false := by decide)
    (hpl : ((backTo pos (starEach [] X.env)).any (·.1) || (backToKw pos (keywordEach [⟨some "other", e, kp⟩, ⟨some "one", e2, kq⟩] X.env)).any (·.1.isNone)) = false := by rfl) : PE X (.Call (.Name x p) [] [⟨some "other", e, kp⟩, ⟨some "one", e2, kq⟩] pos) (tV_one_other C ta) := by
  refine ⟨fun pins s σ H Q I h => wpAny_Call_Name_kw (ld_glob I hg hm ?_ hdb)⟩
  refine PySem.W.callWith_KW0 (h₀ := X.base) I.ok.mod.kin T.kp (by rfl) (thn (he.run pos pins s σ H _ I h) fun us s1 hh => ?_) hpl
  obtain ⟨vs, H1, I1, r, z, y, rfl, q⟩ := hh
  cases r with
  | @cons _ v0 _ ur r0 rr =>
    cases rr with
    | @cons _ v1 _ _ r1 rr =>
      cases rr
      refine ⟨I1.kIn, wpAny_call (born_of (rest := []) (kw := [(("other" : Str), v0), (("one" : Str), v1)]) T b J I1.kIn (Nat.zero_le _) (fun A' R' s1 x t1 h1 h2 h3 h4 h5 h6 => run_one_other (u := v1) (v := v0) T b F h1 h2 h3 h4 h5 h6) I1.nolimit (by have := hr.dp; omega) fun h' tk e d M => ?_)⟩
      obtain ⟨I2, he, hd⟩ := held (tk := tk) I1 M (rel2 r1 r0)
      exact ⟨.ref e, _, I2, rfl, q e d he hd M.ne⟩

/-- C(limit = e, what = e'), as a value -/
def tV_what_limit (C : Addr) (ta : TA) : TE := fun σ H Q => ta σ H fun vs H1 => ∃ z y, vs = [z, y] ∧ ∀ a d, H1 a = none → H1 d = none → d ≠ a → Q (.ref a) (put2 H1 a C d [(("limit" : Str), z), (("what" : Str), y)])
theorem pe_what_limitK {e e2 : Expr} {ta : TA} {k : Nat} {kp kq : Pos} (T : XB X.K C bmB newId) (b : Bs B newId initId bmB) (J : XI X.K C fI) (F : XF_what_limit X.K C fI) (hr : Room k X.A) (hg : Gl X x) (hm : X.mg x = some (.ref C)) (he : PK X [⟨some "limit", e, kp⟩, ⟨some "what", e2, kq⟩] ta) (hdb : (x == ("__debug__" : Str)) = false := by decide)
    (hpl : ((backTo pos (starEach [] X.env)).any (·.1) || (backToKw pos (keywordEach [⟨some "limit", e, kp⟩, ⟨some "what", e2, kq⟩] X.env)).any (·.1.isNone)) = false := by rfl) : PE X (.Call (.Name x p) [] [⟨some "limit", e, kp⟩, ⟨some "what", e2, kq⟩] pos) (tV_what_limit C ta) := by
  refine ⟨fun pins s σ H Q I h => wpAny_Call_Name_kw (ld_glob I hg hm ?_ hdb)⟩
  refine PySem.W.callWith_KW0 (h₀ := X.base) I.ok.mod.kin T.kp (by rfl) (thn (he.run pos pins s σ H _ I h) fun us s1 hh => ?_) hpl
  obtain ⟨vs, H1, I1, r, z, y, rfl, q⟩ := hh
  cases r with
  | @cons _ v0 _ ur r0 rr =>
    cases rr with
    | @cons _ v1 _ _ r1 rr =>
      cases rr
      refine ⟨I1.kIn, wpAny_call (born_of (rest := []) (kw := [(("limit" : Str), v0), (("what" : Str), v1)]) T b J I1.kIn (Nat.zero_le _) (fun A' R' s1 x t1 h1 h2 h3 h4 h5 h6 => run_what_limit (u := v1) (v := v0) T b F h1 h2 h3 h4 h5 h6) I1.nolimit (by have := hr.dp; omega) fun h' tk e d M => ?_)⟩
      obtain ⟨I2, he, hd⟩ := held (tk := tk) I1 M (rel2 r1 r0)
      exact ⟨.ref e, _, I2, rfl, q e d he hd M.ne⟩
end
end K11
end

section
set_option maxHeartbeats 4000000
/-! own exceptions as values: asked, read; made without arguments; raised -/
namespace K11
open PySem PySem.Spec PyProof.Rows L2
/-- an exception of the class C stands at a, its own dict (if it has one) stands too -/
def Stands (H : Hp) (a C : Addr) (d : Option Addr) : Prop := H a = some (exo a C d) ∧ ∀ dd, d = some dd → ∃ fs, H dd = some (exd dd fs)
theorem Stands.same {H H' : Hp} {a C : Addr} {d : Option Addr} (h : Stands H a C d) (s : Same H H') : Stands H' a C d := ⟨s _ _ h.1, fun dd e => (h.2 dd e).elim fun fs q => ⟨fs, s _ _ q⟩⟩
section
variable {X : Cx} {pins : List (Addr × Obj)} {σ : L2.St} {H : Hp} {s : Shared} {a C : Addr} {d : Option Addr}
theorem inst_of (I : L2.Inv X pins σ H s) (h : Stands H a C d) : ∃ ox od, PySem.W.InstAt s.heap a ox C od := by
  obtain ⟨t1, ho⟩ := exo_at I.hok h.1
  cases d with
  | none => exact ⟨_, none, ho, rfl, rfl, trivial⟩
  | some dd =>
    obtain ⟨fs, hd⟩ := h.2 dd rfl
    obtain ⟨mA, ⟨o, es, ep, e, _⟩, _⟩ := exd_at I.hok hd
    exact ⟨_, some o, ho, rfl, rfl, e⟩
/-- isinstance(x, c), x an own exception -/
def rIsH (K : PySem.W.Frag) : List V → Hp → VK → Prop := fun xs H Q => ∃ (a C : Addr) (d : Option Addr) (c : V) (u : Value) (b : Bool), xs = [.ref a, c] ∧ Stands H a C d ∧ EC K C ∧ ClsV c u ∧ PySem.W.kitOne K (.ref C) u = some b ∧ Q (.bl b) H
theorem call_isH {X : Cx} : CallR X (.builtin "isinstance") (rIsH X.K) := by
  intro pins s σ H xs us Q I r h
  obtain ⟨a, C, d, c, u, b, rfl, hs, ec, cv, e, q⟩ := h
  obtain ⟨u1, u2, rfl, r1, r2⟩ := vals2 r
  obtain rfl : u1 = Value.ref a := r1
  have e2 := cv.eq r2
  subst e2
  obtain ⟨ox, od, J⟩ := inst_of I hs
  exact PySem.W.kia_one (ec.kit (x := a) (od := od) (ox := ox)) I.kIn J e (fun z => nomatch z) fun tk => ⟨.bl b, H, I.tok tk, rfl, q⟩
/-- isinstance(x, (c1, c2, ..)) -/
def rIsHT (K : PySem.W.Frag) : List V → Hp → VK → Prop := fun xs H Q => ∃ (a C : Addr) (d : Option Addr) (tp : Addr) (cs : List V) (us : List Value) (b : Bool), xs = [.ref a, .ref tp] ∧ Stands H a C d ∧ EC K C ∧ H tp = some (.tup cs) ∧ Paired ClsV cs us ∧ PySem.W.kitAny K (.ref C) us = some b ∧ Q (.bl b) H
theorem call_isHT {X : Cx} : CallR X (.builtin "isinstance") (rIsHT X.K) := by
  intro pins s σ H xs us Q I r h
  obtain ⟨a, C, d, tp, cs, ws, b, rfl, hs, ec, hT, k, e, q⟩ := h
  obtain ⟨u1, u2, rfl, r1, r2⟩ := vals2 r
  obtain rfl : u1 = Value.ref a := r1
  obtain rfl : u2 = Value.ref tp := r2
  obtain ⟨ox, od, J⟩ := inst_of I hs
  obtain ⟨_, its, rv, o, h1, h2, n, h3⟩ := (show ObjOk X.prog X.w H s.heap tp (.tup cs) from I.hok tp _ hT)
  obtain rfl := ClsV.all k rv
  obtain ⟨oc, od2, dt, sl⟩ := o
  simp only at h2 h3
  subst h2 h3
  exact PySem.W.kia_tup (ec.kit (x := a) (od := od) (ox := ox)) I.kIn J h1 e (fun z => nomatch z) fun tk => ⟨.bl b, H, I.tok tk, rfl, q⟩
/-- x.f, x an own exception -/
def tFld (K : PySem.W.Frag) (f : Str) (te : TE) : TE := fun σ H Q => te σ H fun x H1 => ∃ (a C dd : Addr) (fs : List (Str × V)) (v : V), x = .ref a ∧ H1 a = some (exo a C (some dd)) ∧ H1 dd = some (exd dd fs) ∧ EC K C ∧ PySem.W.findIn K (.ref C) f = some none ∧ fs.lookup f = some v ∧ Q v H1
theorem pe_fldX {X : Cx} {e : Expr} {te : TE} {pos : Pos} {n : Str} (he : PE X e te) (hb : attributeBase e n X.env (eval e X.env) = eval e X.env := by rfl) : PE X (.Attribute e n pos) (tFld X.K n te) := by
  refine ⟨fun pins s σ H Q I h => attr_of hb (thn (he.run pins s σ H _ I h) fun u s1 hh => ?_)⟩
  obtain ⟨x, H1, I1, rx, a, C, dd, fs, v, rfl, ha, hd, ec, no, l, q⟩ := hh
  obtain rfl : u = Value.ref a := rx
  obtain ⟨t1, ho⟩ := exo_at I1.hok ha
  obtain ⟨mA, ns, hr⟩ := exd_at I1.hok hd
  obtain ⟨od, hod, hl⟩ := lookIn_ns ns
  obtain ⟨u, hu, ru⟩ := RelO.some_of (v := v) (o := mA n) (by rw [← l]; exact hr n)
  have J : PySem.W.InstAt s1.heap a _ C (some od) := ⟨ho, rfl, rfl, hod⟩
  exact HandSPX.exc_get I1.kIn J ec.ga ec.gg ec.be (PySem.W.findObj_own ec.hd no rfl (by rw [hl, hu])) (handed_of ru) ⟨v, H1, I1.tok _, ru, q⟩
/-- C(), an own class without a maker of its own -/
def tV0 (C : Addr) : TE := fun σ H Q => ∀ a, H a = none → Q (.ref a) (upd H a (exo a C none))
theorem pe_exc0 {X : Cx} {C : Addr} {bmB : List Value} {B newId initId : String} {x : Str} {p pos : Pos} (F : ExcBaseFacts B newId initId bmB) (q : PySem.W.excIn X.K C bmB newId = true) (gC : X.mg x = some (.ref C)) (kC : PySem.W.keepIn X.K (.ref C) = true) (hg : Gl X x) (hdb : (x == ("__debug__" : Str)) = false := by decide) :
    PE X (.Call (.Name x p) [] [] pos) (tV0 C) := by
  refine ⟨fun pins s σ H Q I h => wpAny_Call_Name_kw (ld_glob I hg gC (PySem.W.callWith_K0 I.kIn kC ?_) hdb)⟩
  show wpAny _ _ (call (.ref C) []) _ _ _
  obtain ⟨bm, N, nm, qn, bs, hdct, sn, sub, ab, col, dd, k0, k1, k2, k3, k5, mN, hC, hN, hni, T⟩ := exc_obj I.kIn q
  refine wpAny_call_exc_subT F T hC hN hni (fun h' a hm => ?_) (Nat.zero_le _)
  have hn : H a = none := I.hok.gone hm.new
  obtain ⟨t, ht, _, _⟩ := hm.there
  exact ⟨.ref a, upd H a (exo a C none), I.laidN hm.keeps hm.new hn (exo_ok ht), rfl, h a hn⟩
end
end K11
end

section
set_option maxHeartbeats 4000000
/-! own exceptions raised with a field, and asked in an except suite -/
namespace K11
open PySem PySem.Spec PyProof.Rows L2
section
variable {X : Cx} {C fI : Addr} {bmB : List Value} {B newId initId : String} {x : Str} {p pos : Pos}
/-- raise C(e): the error's own dict d holds the value -/
def tRv (C : Addr) (ta : TA) : L2.St → Hp → XK → Prop := fun σ H Q => ta σ H fun vs H1 => ∃ y, vs = [y] ∧ ∀ d, H1 d = none → Q (.ref C) (some d) (upd H1 d (.xd [(("value" : Str), y)]))
theorem pmk_value {e : Expr} {ta : TA} {k : Nat} (T : XB X.K C bmB newId) (b : Bs B newId initId bmB) (J : XI X.K C fI) (F : XF_value X.K C fI) (hr : Room k X.A) (hg : Gl X x) (hm : X.mg x = some (.ref C)) (he : PA X [e] ta) (hdb : (x == ("__debug__" : Str)) = false := by decide)
    (hs : starEach [e] X.env = (false, eval e X.env) :: starEach [] X.env := by rfl) (hpl : (backTo pos (starEach [] X.env)).any (·.1) = false := by rfl) : PMk X (.Call (.Name x p) [e] [] pos) (tRv C ta) := by
  intro pins s σ H Q I h
  refine wpAny_Call_Name_kw (ld_glob I hg hm (PySem.W.callWith_K (h₀ := X.base) I.ok.mod.kin T.kp (thn (he.run pos pins s σ H _ I h) fun us s1 hh => ?_) hs hpl) hdb)
  obtain ⟨vs, H1, I1, r, y, rfl, q⟩ := hh
  cases r with
  | @cons _ v0 _ ur rv rr =>
    cases rr
    refine ⟨I1.kIn, wpAny_call (born_of (rest := [v0]) (kw := []) T b J I1.kIn (by show 1 ≤ sizeLine; decide) (fun A' R' s1 x t1 h1 h2 h3 h4 h5 h6 => run_value T b F (.inl ⟨rfl, rfl⟩) h1 h2 h3 h4 h5 h6) I1.nolimit (by have := hr.dp; omega) fun h' tk e d M => ?_)⟩
    obtain ⟨G, g1, g2⟩ := restrict h' fun b => decide (b ≠ e)
    have gk : ∀ b, b ≠ e → G.get? b = h'.get? b := fun b hb => g1 b (decide_eq_true hb)
    have ge : G.get? e = none := g2 e (by simp)
    have old : ∀ b o, s1.heap.get? b = some o → G.get? b = some o := fun b o z => (gk b (Nat.ne_of_lt (Nat.lt_of_lt_of_le (Heap.lt_size z) M.new))).trans (M.keep b o z)
    have up : ∀ b o, G.get? b = some o → h'.get? b = some o := fun b o z => by
      by_cases hb : b = e
      · rw [hb, ge] at z; cases z
      · exact (gk b hb).symm.trans z
    have ob : ObjOk X.prog X.w (upd H1 d (.xd [(("value" : Str), y)])) G d (.xd [(("value" : Str), y)]) := ⟨_, M.ns.at (fun o z => (gk d M.ne).trans z), fun f => rel1 rv f⟩
    have I2 : L2.Inv X pins σ (upd H1 d (.xd [(("value" : Str), y)])) { s1 with heap := G, toks := tk } := I1.laid (t' := tk) old M.big ob
    obtain ⟨t1, ho⟩ := M.obj
    have ne : (upd H1 d (.xd [(("value" : Str), y)])) e = none := by rw [upd_ne M.ne.symm]; exact I1.hok.fresh M.new
    exact ⟨e, _, _, { s1 with heap := G, toks := tk }, _, .ref C, some d, rfl, I2, up, ge, ho, ⟨rfl, rfl⟩, rfl, rfl, ne, rfl, I1.bare, raises_own T.ec.be T.ty, q d (I1.hok.fresh M.big)⟩
end
section
variable {X : Cx} {a C : Addr} {oe : Obj} {d : Option Addr} {pn : List (Addr × Obj)}
theorem inst_pin {pins : List (Addr × Obj)} {σ : L2.St} {H : Hp} {s : Shared} {dd : Addr} {fs : List (Str × V)} (I : L2.Inv (X.suite a ((a, oe) :: pn)) pins σ H s) (hz : Zc (.ref C) (some dd) oe) (hf : ∃ vs, oe.data = .fields vs) (hd : H dd = some (.xd fs)) : ∃ od, PySem.W.InstAt s.heap a oe C od := by
  obtain ⟨ha, _⟩ := I.pin (a, oe) (List.mem_append_left _ List.mem_cons_self)
  obtain ⟨vs, hv⟩ := hf
  have hx : ObjOk X.prog X.w H s.heap dd (.xd fs) := I.hok dd _ hd
  obtain ⟨mA, ⟨o, es, ep, e, _⟩, _⟩ := hx
  refine ⟨some o, ha, hz.1, ?_, ?_⟩
  · unfold PySem.W.notCls
    rw [hv] <;> rfl
  · rw [hz.2]; exact e
/-- isinstance(e, c), e the caught error, with a dict of its own -/
def rIsC (K : PySem.W.Frag) (cls : Value) (C a : Addr) (d : Option Addr) : List V → Hp → VK → Prop := fun xs H Q => ∃ (dd : Addr) (fs : List (Str × V)) (c : V) (u : Value) (b : Bool), xs = [.ref a, c] ∧ cls = .ref C ∧ d = some dd ∧ H dd = some (.xd fs) ∧ EC K C ∧ ClsV c u ∧ PySem.W.kitOne K (.ref C) u = some b ∧ Q (.bl b) H
theorem call_isC {cls : Value} (hz : Zc cls d oe) (hf : ∃ vs, oe.data = .fields vs) : CallR (X.suite a ((a, oe) :: pn)) (.builtin "isinstance") (rIsC X.K cls C a d) := by
  intro pins s σ H xs us Q I r h
  obtain ⟨dd, fs, c, u, b, rfl, rfl, rfl, hd, ec, cv, e, q⟩ := h
  obtain ⟨u1, u2, rfl, r1, r2⟩ := vals2 r
  obtain rfl : u1 = Value.ref a := r1
  have e2 := cv.eq r2
  subst e2
  obtain ⟨od, J⟩ := inst_pin I hz hf hd
  exact PySem.W.kia_one (ec.kit (x := a) (od := od) (ox := oe)) I.kIn J e (fun z => nomatch z) fun tk => ⟨.bl b, H, I.tok tk, rfl, q⟩
def rIsCT (K : PySem.W.Frag) (cls : Value) (C a : Addr) (d : Option Addr) : List V → Hp → VK → Prop := fun xs H Q => ∃ (dd : Addr) (fs : List (Str × V)) (tp : Addr) (cs : List V) (us : List Value) (b : Bool), xs = [.ref a, .ref tp] ∧ cls = .ref C ∧ d = some dd ∧ H dd = some (.xd fs) ∧ EC K C ∧ H tp = some (.tup cs) ∧ Paired ClsV cs us ∧ PySem.W.kitAny K (.ref C) us = some b ∧ Q (.bl b) H
theorem call_isCT {cls : Value} (hz : Zc cls d oe) (hf : ∃ vs, oe.data = .fields vs) : CallR (X.suite a ((a, oe) :: pn)) (.builtin "isinstance") (rIsCT X.K cls C a d) := by
  intro pins s σ H xs us Q I r h
  obtain ⟨dd, fs, tp, cs, ws, b, rfl, rfl, rfl, hd, ec, hT, k, e, q⟩ := h
  obtain ⟨u1, u2, rfl, r1, r2⟩ := vals2 r
  obtain rfl : u1 = Value.ref a := r1
  obtain rfl : u2 = Value.ref tp := r2
  obtain ⟨od, J⟩ := inst_pin I hz hf hd
  obtain ⟨_, its, rv, o, h1, h2, n, h3⟩ := (show ObjOk X.prog X.w H s.heap tp (.tup cs) from I.hok tp _ hT)
  obtain rfl := ClsV.all k rv
  obtain ⟨oc, od2, dt, sl⟩ := o
  simp only at h2 h3
  subst h2 h3
  exact PySem.W.kia_tup (ec.kit (x := a) (od := od) (ox := oe)) I.kIn J h1 e (fun z => nomatch z) fun tk => ⟨.bl b, H, I.tok tk, rfl, q⟩
end
end K11
end

section
set_option maxHeartbeats 4000000
/-! is_ahead -/
namespace K11
open PySem PySem.Spec PyProof.Rows L2
/-- what the top has written of the class InvalidRow -/
structure RowC (K : PySem.W.Frag) (mg : Str → Option Value) (ad : Str → Addr) : Prop where
  T : XB K (ad "InvalidRow") [.type "ValueError", .type "Exception", .type "BaseException", .type "object"] "ValueError.__new__"
  J : XI K (ad "InvalidRow") (ad "InvalidRow.__init__")
  F : XF_value K (ad "InvalidRow") (ad "InvalidRow.__init__")
  G : mg "InvalidRow" = some (.ref (ad "InvalidRow"))
theorem bs_value : Bs "ValueError" "ValueError.__new__" "ValueError.__init__" [.type "ValueError", .type "Exception", .type "BaseException", .type "object"] := ⟨F.excBase_ValueError, fun self => F.store_ValueError.passes self⟩
theorem bs_lookup : Bs "LookupError" "LookupError.__new__" "LookupError.__init__" [.type "LookupError", .type "Exception", .type "BaseException", .type "object"] := ⟨F.excBase_LookupError, fun self => F.store_LookupError.passes self⟩
theorem bs_runtime : Bs "RuntimeError" "RuntimeError.__new__" "RuntimeError.__init__" [.type "RuntimeError", .type "Exception", .type "BaseException", .type "object"] := ⟨F.excBase_RuntimeError, fun self => F.store_RuntimeError.passes self⟩
theorem bs_arith : Bs "ArithmeticError" "ArithmeticError.__new__" "ArithmeticError.__init__" [.type "ArithmeticError", .type "Exception", .type "BaseException", .type "object"] := ⟨F.excBase_ArithmeticError, fun self => F.store_ArithmeticError.passes self⟩
def pairD (x : Str) : PyData := .tuple [.int x.length, .str x]
def aheadS (x y : Str) : Bool := PySem.W.dataLt (pairD x) (pairD y)
/-- x < y, alike data -/
def rLtD : R2 := fun x y H Q => ∃ d e, Dx H x d ∧ Dx H y e ∧ PySem.W.alike d e = true ∧ d ≠ .none ∧ d.depth ≤ 40 ∧ Q (.bl (PySem.W.dataLt d e)) H
theorem op_ltD {X : Cx} (hu : X.A.units + 64 < cLine) : OpR X (compareOp .Lt) rLtD := by
  intro pins s σ H x y v u Q I rx ry h
  obtain ⟨d, e, hd, he, al, nn, dp, q⟩ := h
  obtain ⟨as, r1, _⟩ := Dx.reads I hd rx
  obtain ⟨bs, r2, _⟩ := Dx.reads I he ry
  have := PySem.W.rcLt_alike d e X.A s v u as bs r1 r2 al nn (by have := Nat.min_le_left d.depth e.depth; omega)
  exact this X.prog X.w X.xe (EP X pins σ Q) ⟨.bl _, H, I, rfl, q⟩
def spIsAhead (C : Addr) : Sp := fun vs H Q E => ∃ (a b : V) (d e : PyData), vs = [a, b] ∧ Dx H a d ∧ Dx H b e ∧ Tame d ∧ Tame e ∧
  (wordD d = false → ∀ (H' : Hp) (p : Addr), Same H H' → H' p = none → E (.ref C) (some p) (upd H' p (.xd [(("value" : Str), a)]))) ∧
  (wordD d = true → wordD e = false → ∀ (H' : Hp) (p : Addr), Same H H' → H' p = none → E (.ref C) (some p) (upd H' p (.xd [(("value" : Str), b)]))) ∧
  (∀ x y, d = .str x → e = .str y → wordD d = true → wordD e = true → ∀ H', Same H H' → Q (.bl (aheadS x y)) H')
section
variable {P : Program} {w : World} {K : PySem.W.Frag} {mg : Str → Option Value} {base : Heap} {ad : Str → Addr} {fd : Str → FuncData}
theorem scIsAhead : FnScope ["one", "other", "row"] ["one", "other"] (defScope sIsAhead) := ⟨rfl, rfl, rfl, by decide +kernel, rfl, by decide +kernel, by decide +kernel⟩
theorem ok_is_ahead (X : Tx K mg ad fd) (R : RowC K mg ad) : FnOk P w K mg base (L2.CX P w) 3 (ad "is_ahead") (fd "is_ahead") ["one", "other"] (spIsAhead (ad "InvalidRow")) := by
  have G_is_row : FnOk P w K mg base CX0 1 (ad "is_row") (fd "is_row") ["value"] (spB wordD) := ok_is_row X
  obtain ⟨TR, JR, FR, GR⟩ := R
  have BV := bs_value
  refine X.F_is_ahead.okX scIsAhead (fun vs H Q E h => ?_) (fun cdv A outer s H vs Q E hr h => ?_)
  · obtain ⟨a, b, d, e, rfl, _⟩ := h
    rfl
  · obtain ⟨a, b, d, e, rfl, ha, hb, ta, tb, q1, q2, q3⟩ := h
    have hr1 := hr
    have HR_is_row : Room 1 _ := hr.mono (by decide)
    refine ⟨_, (pss_cons (ps_for (passes_of rfl) rfl (pi_tup (pe_tup (pa_cons (pv 0) (pa_cons (pv 1) pa_nil)))) (pg_name (i := 2) scIsAhead.nd rfl (.inl rfl))
  (pss_one (ps_if (pt_not (pt_val (pe_call G_is_row HR_is_row (by rfl) X.g_is_row X.F_is_row.kp X.b_is_row .nil pass0 (pa_cons (pv 2) pa_nil))))
  (pss_one (ps_raise rfl (takes_of rfl rfl rfl rfl) (pmk_value TR BV JR FR hr1 (by rfl) GR (by exact (pa_cons (pv 2) pa_nil)))))
  pss_nil)))
  (pss_one (ps_ret (by exact (pe_cmpR (op_ltD hr1.units) (pe_tup (pa_cons (pe_callB call_len (by rfl) X.m_len (by decide +kernel) (pa_cons (pv 0) pa_nil)) (pa_cons (pv 0) pa_nil))) (pe_tup (pa_cons (pe_callB call_len (by rfl) X.m_len (by decide +kernel) (pa_cons (pv 1) pa_nil)) (pa_cons (pv 1) pa_nil))) (nomark _)))))), ?_⟩
    refine ⟨a, rfl, b, rfl, (by show 2 ≤ sizeLine; decide), fun t ht => ⟨t, rfl, ⟨_, SqT.of upd_same⟩, ?_⟩⟩
    refine for_tup (K := K) (a := t) (xs := [a, b]) (fun i σ H' => ∃ r, σ = [some a, some b, r] ∧ Same H H' ∧ H' t = some (.tup [a, b]) ∧ (0 < i → wordD d = true) ∧ (1 < i → wordD e = true))
      ⟨none, rfl, Same.new ht, upd_same, fun z => absurd z (by decide), fun z => absurd z (by decide)⟩ (fun i σ H' _ ⟨_, _, _, et, _⟩ => SqT.of et) ?_ ?_
    · rintro i x σ H' hx ⟨r, rfl, hs, et, w0, w1⟩
      match i, hx with
      | 0, hx =>
        obtain rfl : a = x := Option.some.inj hx
        refine ⟨_, rfl, a, d, rfl, ha.same hs, ta, fun H1 s1 => ⟨_, rfl, ?_⟩⟩
        cases ew : wordD d with
        | true => exact iteF ⟨_, rfl, fun b o z => s1 b o (hs b o z), s1 _ _ et, fun _ => rfl, fun z => absurd z (by decide)⟩
        | false =>
          refine iteT ⟨_, rfl, a, rfl, fun p hp => q1 ew H1 p (fun b o z => s1 b o (hs b o z)) hp⟩
      | 1, hx =>
        obtain rfl : b = x := Option.some.inj hx
        refine ⟨_, rfl, b, e, rfl, hb.same hs, tb, fun H1 s1 => ⟨_, rfl, ?_⟩⟩
        have w0' := w0 (by decide)
        cases ew : wordD e with
        | true => exact iteF ⟨_, rfl, fun b o z => s1 b o (hs b o z), s1 _ _ et, fun _ => w0', fun _ => rfl⟩
        | false =>
          refine iteT ⟨_, rfl, b, rfl, fun p hp => q2 w0' ew H1 p (fun b o z => s1 b o (hs b o z)) hp⟩
      | i + 2, hx => cases hx
    · rintro σ H' ⟨r, rfl, hs, et, w0, w1⟩
      have e0 := w0 (show 0 < 2 by decide)
      have e1 := w1 (show 1 < 2 by decide)
      cases ha with
      | str x =>
        cases hb with
        | str y =>
          have lx := (ta.len x rfl).1
          have ly := (tb.len y rfl).1
          refine ⟨_, rfl, _, x.length, rfl, ⟨by rw [sizeLine_eq]; omega, rfl⟩, _, rfl, (by show 2 ≤ sizeLine; decide), fun t1 h1 => ?_⟩
          refine ⟨_, rfl, _, y.length, rfl, ⟨by rw [sizeLine_eq]; omega, rfl⟩, _, rfl, (by show 2 ≤ sizeLine; decide), fun t2 h2 => ?_⟩
          have n12 : t1 ≠ t2 := ne_of_none upd_same h2
          refine ⟨pairD x, pairD y, .tup (by rw [upd_ne n12]; exact upd_same) (.cons (.int _) (.cons (.str _) .nil)), .tup upd_same (.cons (.int _) (.cons (.str _) .nil)), rfl, (fun z => by cases z), (show (2 : Nat) - 1 ≤ 40 by decide), ?_⟩
          exact q3 x y rfl rfl e0 e1 _ fun b o z => Same.new h2 b o (Same.new h1 b o (hs b o z))
        | _ => cases e1
      | _ => cases e0
end
end K11
end

section
set_option maxHeartbeats 4000000
/-! for a, b in zip(x, y), two texts -/
namespace K11
open PySem PySem.Spec PyProof.Rows L2
def ItzS (x y : Str) : It := ⟨fun i _ => i < min x.cps.size y.cps.size, fun i H v H' => ∃ T c d, v = .ref T ∧ H T = none ∧ H' = upd H T (.tup [.str ⟨#[c]⟩, .str ⟨#[d]⟩]) ∧ x.cps[i]? = some c ∧ y.cps[i]? = some d, fun i _ => min x.cps.size y.cps.size ≤ i⟩
theorem turn_zipS {P : Program} {w : World} {K : PySem.W.Frag} {elts : List Expr} {kk : Nat} {tpos : Pos} {x y : Str} {t u : Tok} {z TI TO i1 i2 : Addr} (S : ZipSep2 z TI TO i1 i2 [i1] [i2]) :
    Turn P w K (.Tuple elts kk tpos) (ItzS x y) (z :: TI :: TO :: ([i1] ++ [i2])) z (fun i h => i ≤ min x.cps.size y.cps.size ∧ IsZip h z TI TO .none ∧ IsTupOf2 h TI (.ref i1) (.ref i2) ∧ (∃ a1 a2, IsTupOf2 h TO a1 a2) ∧ h.IsStrIter i1 (strIterType x) x t i ∧ h.IsStrIter i2 (strIterType y) y u i) where
  mem := List.mem_cons_self
  obj i h st b hb := by
    obtain ⟨_, hz, hTI, ⟨p, q, hTO⟩, ⟨o1, e1, _, d1⟩, ⟨o2, e2, _, d2⟩⟩ := st
    have c : b = z ∨ b = TI ∨ b = TO ∨ b = i1 ∨ b = i2 := by simpa using hb
    rcases c with c | c | c | c | c
    · rw [c]; exact ⟨_, hz, fun v q => nomatch q⟩
    · rw [c]; exact ⟨_, hTI, fun v q => nomatch q⟩
    · rw [c]; exact ⟨_, hTO, fun v q => nomatch q⟩
    · rw [c]; exact ⟨o1, e1, fun v q => by rw [d1] at q; cases q⟩
    · rw [c]; exact ⟨o2, e2, fun v q => by rw [d2] at q; cases q⟩
  keep i h h' st k := by
    obtain ⟨le, hz, hTI, ⟨p, q, hTO⟩, ⟨o1, e1, r1⟩, ⟨o2, e2, r2⟩⟩ := st
    exact ⟨le, k z (by simp) _ hz, k TI (by simp) _ hTI, ⟨p, q, k TO (by simp) _ hTO⟩, ⟨o1, k i1 (by simp) _ e1, r1⟩, ⟨o2, k i2 (by simp) _ e2, r2⟩⟩
  item := by
    intro X hP hw hK hc i pins s σ H E I hf st hg
    subst hP hw hK
    obtain ⟨le, st⟩ := st
    have Z := GoesN.zip2 (prog := X.prog) (w := X.w) (A := X.A) (elts := elts) (x1 := kk) (pos := tpos) S (Draws.text (A := X.A.in1) (I.ok.hd hc) i1 x t) (Draws.text (A := X.A.in1) (I.ok.hd hc) i2 y u)
    refine wpAny_mono (Z.goes i s (fun v s2 => ∃ xv H', L2.Inv X pins σ H' s2 ∧ RelV xv v ∧ (ItzS x y).yld i H xv H' ∧ (i + 1 ≤ min x.cps.size y.cps.size ∧ IsZip s2.heap z TI TO .none ∧ IsTupOf2 s2.heap TI (.ref i1) (.ref i2) ∧ (∃ a1 a2, IsTupOf2 s2.heap TO a1 a2) ∧ s2.heap.IsStrIter i1 (strIterType x) x t (i + 1) ∧ s2.heap.IsStrIter i2 (strIterType y) y u (i + 1)) ∧ ∀ b ∈ (z :: TI :: TO :: ([i1] ++ [i2])), H' b = none) E hg st fun v h' tk hy st' kk' htk => ?_) (fun r s1 h => h) (fun _ _ h => h)
    obtain ⟨T, u1, u2, rfl, big, ⟨c, t1, hc1, rfl⟩, ⟨d, t2, hd1, rfl⟩, hT⟩ := hy
    have nT : H T = none := I.hok.fresh big
    have new : ObjOk X.prog X.w (upd H T (.tup [.str ⟨#[c]⟩, .str ⟨#[d]⟩])) h' T (.tup [.str ⟨#[c]⟩, .str ⟨#[d]⟩]) := ⟨by show 2 ≤ sizeLine; decide, [.str ⟨#[c]⟩ t1, .str ⟨#[d]⟩ t2], .cons ⟨t1, rfl⟩ (.cons ⟨t2, rfl⟩ .nil), hT⟩
    have I1 : L2.Inv X pins σ (upd H T (.tup [.str ⟨#[c]⟩, .str ⟨#[d]⟩])) { s with heap := h', toks := tk } :=
      I.turnedNew (t' := tk) (ch := z :: TI :: TO :: ([i1] ++ [i2])) (fun b o hb e => kk' b o (fun q => hb (by
        have q' : b = z ∨ b = TO ∨ b = i1 ∨ b = i2 := by simpa using q
        rcases q' with q' | q' | q' | q' <;> simp [q'])) e) hf big new
    refine ⟨.ref T, _, I1, rfl, ⟨T, c, d, rfl, nT, rfl, hc1, hd1⟩, ⟨hg, st'⟩, fun b hb => ?_⟩
    obtain ⟨o, ho, _⟩ : ∃ o, s.heap.get? b = some o ∧ True := by
      obtain ⟨hz, hTI, ⟨p, q, hTO⟩, ⟨o1, e1, _⟩, ⟨o2, e2, _⟩⟩ := st
      have c : b = z ∨ b = TI ∨ b = TO ∨ b = i1 ∨ b = i2 := by simpa using hb
      rcases c with c | c | c | c | c
      · rw [c]; exact ⟨_, hz, trivial⟩
      · rw [c]; exact ⟨_, hTI, trivial⟩
      · rw [c]; exact ⟨_, hTO, trivial⟩
      · rw [c]; exact ⟨o1, e1, trivial⟩
      · rw [c]; exact ⟨o2, e2, trivial⟩
    rw [upd_ne (Nat.ne_of_lt (Nat.lt_of_lt_of_le (Heap.lt_size ho) big))]
    exact (hf b hb).1
  done := by
    intro X hP hw hK hc i pins s σ H E I hf st hg
    subst hP hw hK
    obtain ⟨le, st⟩ := st
    have ei : i = min x.cps.size y.cps.size := Nat.le_antisymm le hg
    have Z := GoesN.zip2 (prog := X.prog) (w := X.w) (A := X.A) (elts := elts) (x1 := kk) (pos := tpos) S (Draws.text (A := X.A.in1) (I.ok.hd hc) i1 x t) (Draws.text (A := X.A.in1) (I.ok.hd hc) i2 y u)
    subst ei
    exact Z.stops s (fun s1 => L2.Inv X pins σ H s1) E st fun h' tk kk' htk => I.turnedL (t' := tk) (ch := z :: TI :: TO :: ([i1] ++ [i2])) (fun b o hb e => kk' b o (fun q => hb (by
        have q' : b = z ∨ b = TO ∨ b = i1 ∨ b = i2 := by simpa using q
        rcases q' with q' | q' | q' | q' <;> simp [q'])) e) hf
  self A i s Q E st h := wpAny_pyIter_zip st.2.1 h
def iZipS (ta : TA) : TI := fun σ H R => ta σ H fun vs H1 => ∃ x y, vs = [.str x, .str y] ∧ R (ItzS x y) H1
theorem pi_zipS {X : Cx} {e e2 : Expr} {ta : TA} {p pos tpos : Pos} {elts : List Expr} {kk : Nat} (hg : Gl X "zip") (hm : X.mg "zip" = none) (ha : PA X [e, e2] ta)
    (hs : starEach [e, e2] X.env = (false, eval e X.env) :: starEach [e2] X.env := by rfl) (hpl : (backTo pos (starEach [e2] X.env)).any (·.1) = false := by rfl) : PI X (.Tuple elts kk tpos) (.Call (.Name "zip" p) [e, e2] [] pos) (iZipS ta) := by
  refine ⟨fun pins s σ H R I h => Call_ (ld_blt I hg hm PyProof.Rows.boot_zip (PyProof.Rows.callWith_type1 (thn (ha.run pos pins s σ H _ I h) fun us s1 hh => ?_) hs hpl))⟩
  obtain ⟨vs, H1, I1, r1, x, y, rfl, q⟩ := hh
  obtain ⟨u1, u2, rfl, ⟨t, rfl⟩, ⟨u, rfl⟩⟩ := vals2 r1
  refine zip_begins2 (begins_text x t) (begins_text y u) trivial trivial fun h' hz hTI hTO ho1 ho2 hsz k => wpAny_pyIter_zip hz ?_
  have I2 : L2.Inv X pins σ H1 { s1 with heap := h' } := I1.kept (t' := s1.toks) k
  refine ⟨_, _, _, ItzS x y, H1, rfl, I2, turn_zipS (t := t) (u := u) (zip_sep2 (fp1 := []) (fp2 := []) (fun _ h => nomatch h) (fun _ h => nomatch h)), ⟨Nat.zero_le _, hz, hTI, ⟨_, _, hTO⟩, ⟨_, ho1, rfl, rfl⟩, ⟨_, ho2, rfl, rfl⟩⟩, fun b hb => ?_, q⟩
  have big : s1.heap.objs.size ≤ b := by
    have c : b = s1.heap.objs.size + 4 ∨ b = s1.heap.objs.size + 2 ∨ b = s1.heap.objs.size + 3 ∨ b = s1.heap.objs.size ∨ b = s1.heap.objs.size + 1 := by simpa using hb
    rcases c with c | c | c | c | c
    · rw [c]; exact Nat.le_add_right _ _
    · rw [c]; exact Nat.le_add_right _ _
    · rw [c]; exact Nat.le_add_right _ _
    · rw [c]; exact Nat.le_refl _
    · rw [c]; exact Nat.le_add_right _ _
  exact I1.fpOk big (I1.hok.fresh big)
end K11
end

section
set_option maxHeartbeats 4000000
/-! the law's own order of words -/
namespace K11
open PySem PySem.Spec PyProof.Rows L2
theorem eqv_int (a b : Int) : PyData.eqv (.int a) (.int b) = decide (a = b) := by
  by_cases h : a = b
  · simp [PyData.eqv, h]
  · simp [PyData.eqv, h]
theorem eqv_str (a b : Str) : PyData.eqv (.str a) (.str b) = decide (a = b) := by
  by_cases h : a = b
  · simp [PyData.eqv, h]
  · simp [PyData.eqv, h]
theorem ahead_len {x y : Str} (h : x.length ≠ y.length) : aheadS x y = decide ((x.length : Int) < (y.length : Int)) := by
  unfold aheadS pairD
  rw [PySem.W.dataLt_tuple, PySem.W.dataLt_all_no rfl (by rw [eqv_int]; exact decide_eq_false (by omega)), PySem.W.dataLt_int]
theorem lex_nil : PyProof.Rows.lexLt PyProof.Rows.itemOrd (PySem.W.keyToksAll []) (PySem.W.keyToksAll []) = false := by decide +kernel
theorem ahead_eq {x y : Str} (h : x.length = y.length) : aheadS x y = decide (x.cps.toList < y.cps.toList) := by
  unfold aheadS pairD
  rw [PySem.W.dataLt_tuple, h, PySem.W.dataLt_all_yes rfl (by rw [eqv_int]; exact decide_eq_true rfl)]
  by_cases e : x = y
  · subst e
    rw [PySem.W.dataLt_all_yes rfl (by rw [eqv_str]; exact decide_eq_true rfl)]
    rw [lex_nil]
    exact (decide_eq_false (List.lt_irrefl _)).symm
  · rw [PySem.W.dataLt_all_no rfl (by rw [eqv_str]; exact decide_eq_false e), PySem.W.dataLt_str]
theorem lt_at : ∀ {l m : List Nat} {i c d : Nat}, l.take i = m.take i → l[i]? = some c → m[i]? = some d → c ≠ d → (l < m ↔ c < d)
  | [], _, _, _, _, _, h, _, _ => by simp at h
  | a :: l, [], _, _, _, _, _, h, _ => by simp at h
  | a :: l, b :: m, 0, c, d, _, h1, h2, ne => by
    obtain rfl : a = c := Option.some.inj h1
    obtain rfl : b = d := Option.some.inj h2
    constructor
    · intro h
      rcases List.cons_lt_cons_iff.mp h with h | ⟨h, _⟩
      · exact h
      · exact absurd h ne
    · intro h
      exact List.cons_lt_cons_iff.mpr (.inl h)
  | a :: l, b :: m, i + 1, c, d, ht, h1, h2, ne => by
    rw [List.take_succ_cons, List.take_succ_cons] at ht
    obtain ⟨e, ht2⟩ := List.cons.inj ht
    subst e
    have ih := lt_at ht2 (by simpa using h1) (by simpa using h2) ne
    rw [← ih]
    constructor
    · intro h
      rcases List.cons_lt_cons_iff.mp h with h | ⟨_, h⟩
      · exact absurd h (Nat.lt_irrefl _)
      · exact h
    · intro h
      exact List.cons_lt_cons_iff.mpr (.inr ⟨rfl, h⟩)
theorem occ (c : Nat) (h : sgn c = true) : ∃ rest, Builtin.Str.occurrences (PySem.Str.ofString "abcd") ⟨#[c]⟩ 0 (PySem.Str.ofString "abcd").length 1 = (c - 97) :: rest ∧ 97 ≤ c := by
  have hm : c ∈ (PySem.Str.ofString "abcd").cps.toList := of_decide_eq_true h
  have e : (PySem.Str.ofString "abcd").cps.toList = [97, 98, 99, 100] := by decide +kernel
  rw [e] at hm
  have h4 : c = 97 ∨ c = 98 ∨ c = 99 ∨ c = 100 := by simpa using hm
  rcases h4 with rfl | rfl | rfl | rfl
  · exact ⟨[], by decide +kernel, by decide⟩
  · exact ⟨[], by decide +kernel, by decide⟩
  · exact ⟨[], by decide +kernel, by decide⟩
  · exact ⟨[], by decide +kernel, by decide⟩
theorem walk_zipS {x y : Str} : Walk (ItzS x y) (min x.cps.size y.cps.size) (fun _ => True) (fun i H v H' => ∃ T c d, v = .ref T ∧ H T = none ∧ H' = upd H T (.tup [.str ⟨#[c]⟩, .str ⟨#[d]⟩]) ∧ x.cps[i]? = some c ∧ y.cps[i]? = some d) := ⟨fun _ _ hi _ => hi, fun _ _ => Nat.le_refl _, fun _ _ _ _ _ _ y => y⟩
def spAhead : Sp := fun vs H Q _ => ∃ (x y : Str), vs = [.str x, .str y] ∧ x.length ≤ 5000 ∧ y.length ≤ 5000 ∧ wordD (.str x) = true ∧ wordD (.str y) = true ∧ ∀ H', Same H H' → Q (.bl (aheadS x y)) H'
section
variable {P : Program} {w : World} {K : PySem.W.Frag} {mg : Str → Option Value} {base : Heap} {ad : Str → Addr} {fd : Str → FuncData}
theorem scAhead : FnScope ["_law_near", "_law_far", "_law_here", "_law_there"] ["_law_near", "_law_far"] (defScope sAhead) := ⟨rfl, rfl, rfl, by decide +kernel, rfl, by decide +kernel, by decide +kernel⟩
theorem ok_ahead (X : Tx K mg ad fd) : FnOk P w K mg base CX0 1 (ad "_law_ahead") (fd "_law_ahead") ["_law_near", "_law_far"] spAhead := by
  refine X.F__law_ahead.ok scAhead (fun vs H Q E h => ?_) (fun cdv A outer s H vs Q E hr h => ?_)
  · obtain ⟨x, y, rfl, _⟩ := h
    rfl
  · obtain ⟨x, y, rfl, lx, ly, wx, wy, q⟩ := h
    refine ⟨_, (pss_cons (ps_if (pt_cmpR op_ne (pe_callB call_len (by rfl) X.m_len (by decide +kernel) (pa_cons (pv 0) pa_nil)) (pe_callB call_len (by rfl) X.m_len (by decide +kernel) (pa_cons (pv 1) pa_nil)) (nomark _))
  (pss_one (ps_ret (by exact (pe_cmpR op_lt (pe_callB call_len (by rfl) X.m_len (by decide +kernel) (pa_cons (pv 0) pa_nil)) (pe_callB call_len (by rfl) X.m_len (by decide +kernel) (pa_cons (pv 1) pa_nil)) (nomark _)))))
  pss_nil)
  (pss_cons (ps_for PassesOwn.never rfl (pi_zipS (by rfl) X.m_zip (pa_cons (pv 0) (pa_cons (pv 1) pa_nil))) (pg_tup rfl (pgs_cons (pg_name (i := 2) scAhead.nd rfl (.inl rfl)) (pgs_cons (pg_name (i := 3) scAhead.nd rfl (.inl rfl)) pgs_nil)))
  (pss_one (ps_if (pt_cmpR op_ne (pv 2) (pv 3) (nomark _))
  (pss_one (ps_ret (by exact (pe_cmpR op_lt (pe_m1 PySem.F.slot_str_index PySem.F.type_str_index mt_sindex pe_str (pv 2)) (pe_m1 PySem.F.slot_str_index PySem.F.type_str_index mt_sindex pe_str (pv 3)) (nomark _)))))
  pss_nil)))
  (pss_one (ps_ret (by exact pe_bl))))), ?_⟩
    have llx : LenV K (.str x) H x.length := ⟨by rw [sizeLine_eq]; omega, rfl⟩
    have lly : LenV K (.str y) H y.length := ⟨by rw [sizeLine_eq]; omega, rfl⟩
    refine ⟨_, rfl, _, x.length, rfl, llx, _, rfl, _, y.length, rfl, lly, rfl, _, rfl, ?_⟩
    by_cases hl : x.length = y.length
    · rw [hl]
      have key : ∀ A B : Prop, B → (if (!decide ((V.int (y.length : Nat)) = V.int (y.length : Nat))) = true then A else B) := fun A B h => by rw [if_neg (by simp)]; exact h
      refine key _ _ ⟨_, rfl, _, rfl, x, y, rfl, ?_⟩
      have hsz : x.cps.size = y.cps.size := hl
      refine for_it (walk_zipS (x := x) (y := y)) (fun i σ H' => ∃ r s, σ = [some (.str x), some (.str y), r, s] ∧ Same H H' ∧ x.cps.toList.take i = y.cps.toList.take i) ⟨none, none, rfl, Same.refl, rfl⟩ (fun _ _ _ _ _ => trivial) ?_ ?_
      · rintro i v σ H1 H2 hi ⟨r, s, rfl, hs, ht⟩ ⟨T, c, d, rfl, hT, rfl, hc, hd⟩
        have hc' : x.cps.toList[i]? = some c := by rw [Array.getElem?_toList]; exact hc
        have hd' : y.cps.toList[i]? = some d := by rw [Array.getElem?_toList]; exact hd
        have gc : sgn c = true := List.all_eq_true.mp wx c (List.mem_of_getElem? hc')
        have gd : sgn d = true := List.all_eq_true.mp wy d (List.mem_of_getElem? hd')
        have hs2 : Same H (upd H1 T (.tup [.str ⟨#[c]⟩, .str ⟨#[d]⟩])) := fun b o e => Same.new hT b o (hs b o e)
        refine ⟨T, _, rfl, SqT.of upd_same, rfl, _, _, rfl, _, _, rfl, rfl, _, rfl, _, rfl, rfl, _, rfl, ?_⟩
        refine ite2 (fun e => ?_) (fun e => ?_)
        · have ne : c ≠ d := fun z => by
            rw [z] at e
            simp at e
          obtain ⟨r1, o1, g1⟩ := occ c gc
          obtain ⟨r2, o2, g2⟩ := occ d gd
          refine ⟨⟨_, rfl⟩, _, rfl, _, _, c - 97, r1, rfl, rfl, o1, ⟨_, rfl⟩, _, rfl, _, _, d - 97, r2, rfl, rfl, o2, _, _, rfl, rfl, ?_⟩
          have q' := q _ hs2
          rw [ahead_eq hl] at q'
          rw [show decide (x.cps.toList < y.cps.toList) = decide (((c - 97 : Nat) : Int) < ((d - 97 : Nat) : Int)) from decide_eq_decide.mpr ((lt_at ht hc' hd' ne).trans (by omega))] at q'
          exact q'
        · have ec : c = d := by
            by_cases z : c = d
            · exact z
            · exact absurd (by simp [z]) e
          refine ⟨_, _, rfl, hs2, ?_⟩
          rw [take_snoc hc', take_snoc hd', ht, ec]
      · rintro σ H1 ⟨r, s, rfl, hs, ht⟩
        have q' := q _ hs
        rw [ahead_eq hl] at q'
        have ex : x.cps.toList = y.cps.toList := by
          rw [hsz, Nat.min_self] at ht
          rwa [List.take_of_length_le (by simp [hsz]), List.take_of_length_le (by simp)] at ht
        rw [ex, decide_eq_false (List.lt_irrefl _)] at q'
        exact q'
    · have key : ∀ A B : Prop, A → (if (!decide ((V.int (x.length : Nat)) = V.int (y.length : Nat))) = true then A else B) := fun A B h => by
        rw [if_pos (by simp; intro z; exact hl (by exact_mod_cast z))]
        exact h
      refine key _ _ ⟨_, rfl, _, x.length, rfl, llx, _, rfl, _, y.length, rfl, lly, _, _, rfl, rfl, ?_⟩
      have q' := q H Same.refl
      rw [ahead_len hl] at q'
      exact q'
end
end K11
end

section
set_option maxHeartbeats 4000000
/-! calls by keywords alone -/
namespace K11
open PySem PySem.Spec PyProof.Rows L2
structure KB (K : PySem.W.Frag) (fd : FuncData) (ps ks : List Str) (g : List Value → List Value) (gV : List V → List V) : Prop where
  to : ∀ (s : Shared) (ws : List Value), K.In s.heap → (g ws).length = ps.length → BindsTo s fd ⟨[], ks.zip ws⟩ (ps.zip (g ws))
  rel : ∀ {zs : List V} {ws : List Value}, Vals zs ws → Vals (gV zs) (g ws)
theorem Fun.kb {K : PySem.W.Frag} {x qual : Str} {st : Stmt} {f : Addr} {fd : FuncData} {ps ks : List Str} {g : List Value → List Value} {gV : List V → List V} (F : Fun K x qual st f fd) (rel : ∀ {zs : List V} {ws : List Value}, Vals zs ws → Vals (gV zs) (g ws))
    (h : ∀ (kV doc pm : Value) (an : Option Addr) (cdv ct : Value) (ws : List Value), (g ws).length = ps.length → bindArgs (PySem.W.fnOf x qual (defArgs st) (defBody st) (defScope st) .none kV doc pm an cdv ct) ⟨[], ks.zip ws⟩ = pure (ps.zip (g ws))) : KB K fd ps ks g gV := by
  obtain ⟨oc, od, kV, doc, pm, an, cdv, ct, osl, rfl, lk, hcd⟩ := F.ex
  exact ⟨fun s ws _ hl => BindsTo.of_eq (h kV doc pm an cdv ct ws hl), rel⟩
theorem vals_rev {zs : List V} {ws : List Value} (r : Vals zs ws) : Vals zs.reverse ws.reverse := by
  induction r with
  | nil => exact .nil
  | cons a _ ih =>
    rw [List.reverse_cons, List.reverse_cons]
    exact ih.append (.cons a .nil)
section
variable {X : Cx} {CX : CXT} {k : Nat} {f : Addr} {fd : FuncData} {ps ks : List Str} {sp : Sp} {E : L2.St → XK} {x : Str} {p pos : Pos} {kws : List Keyword} {tk : TA} {g : List Value → List Value} {gV : List V → List V}
def tCallKW (sp : Sp) (gV : List V → List V) (E : L2.St → XK) (tk : TA) : TE := fun σ H Q => tk σ H fun zs H1 => sp (gV zs) H1 Q (E σ)
theorem pe_callKWS (F : FnOk X.prog X.w X.K X.mg X.base CX k f fd ps sp) (hr : Room k X.A) (hg : Gl X x) (hm : X.mg x = some (.ref f)) (hk : PySem.W.keepIn X.K (.ref f) = true) (hb : KB X.K fd ps ks g gV) (hx : ∀ σ, PassesAt CX X σ (E σ)) (hkw : PK X kws tk)
    (hall : (backToKw pos (keywordEach kws X.env)).all (·.1.isSome) = true := by rfl) (hks : (backToKw pos (keywordEach kws X.env)).filterMap (·.1) = ks := by rfl) (hdb : (x == ("__debug__" : Str)) = false := by decide)
    (hpl : ((backTo pos (starEach [] X.env)).any (·.1) || (backToKw pos (keywordEach kws X.env)).any (·.1.isNone)) = false := by rfl) : PE X (.Call (.Name x p) [] kws pos) (tCallKW sp gV E tk) := by
  refine ⟨fun pins s σ H Q I h => wpAny_Call_Name_kw (ld_glob I hg hm (PySem.W.callWith_KW0 (h₀ := X.base) I.ok.mod.kin hk hall (thn (hkw.run pos pins s σ H _ I h) fun ws s2 hh => ?_) hpl) hdb)⟩
  obtain ⟨zs, H1, I1, r, q⟩ := hh
  refine ⟨I1.kIn, ?_⟩
  rw [hks]
  have r2 := hb.rel r
  have hl : (g ws).length = ps.length := r2.length.symm.trans (F.len _ _ _ _ q)
  refine wpAny_call (codeAny_mono (F.run X.A X.stack s2 H1 ⟨[], ks.zip ws⟩ (g ws) (gV zs) Q (E σ) hr I1.env0 (hb.to s2 ws I1.kIn hl) r2 q) fun res s' hq => ?_)
  match res, hq with
  | .error e, hq => exact hx σ pins H1 s2 e s' I1 hq
  | .ok (.ret u), hq => exact I1.after hq
theorem pe_callKW (F : FnOk X.prog X.w X.K X.mg X.base CX0 k f fd ps sp) (hr : Room k X.A) (hg : Gl X x) (hm : X.mg x = some (.ref f)) (hk : PySem.W.keepIn X.K (.ref f) = true) (hb : KB X.K fd ps ks g gV) (hkw : PK X kws tk)
    (hall : (backToKw pos (keywordEach kws X.env)).all (·.1.isSome) = true := by rfl) (hks : (backToKw pos (keywordEach kws X.env)).filterMap (·.1) = ks := by rfl) (hdb : (x == ("__debug__" : Str)) = false := by decide)
    (hpl : ((backTo pos (starEach [] X.env)).any (·.1) || (backToKw pos (keywordEach kws X.env)).any (·.1.isNone)) = false := by rfl) : PE X (.Call (.Name x p) [] kws pos) (tCallKW sp gV (fun _ => E0) tk) :=
  pe_callKWS (E := fun _ => E0) F hr hg hm hk hb (fun _ _ _ _ _ _ _ h => h.elim) hkw hall hks hdb hpl
end
end K11
end

section
set_option maxHeartbeats 4000000
/-! what the law is told by is_ahead -/
namespace K11
open PySem PySem.Spec PyProof.Rows L2
/-- the classes that the law names beside InvalidRow -/
structure TellC (K : PySem.W.Frag) (mg : Str → Option Value) (ad : Str → Addr) : Prop where
  R : RowC K mg ad
  g1 : mg "InvalidWord" = some (.ref (ad "InvalidWord"))
  g2 : mg "InvalidBlock" = some (.ref (ad "InvalidBlock"))
  g3 : mg "InvalidMark" = some (.ref (ad "InvalidMark"))
  g4 : mg "MissingError" = some (.ref (ad "MissingError"))
  g5 : mg "StateError" = some (.ref (ad "StateError"))
  g6 : mg "LimitError" = some (.ref (ad "LimitError"))
  gB : mg "BarredError" = some (.ref (ad "BarredError"))
  none : PySem.W.kitAny K (.ref (ad "InvalidRow")) [.ref (ad "InvalidWord"), .ref (ad "InvalidBlock"), .ref (ad "InvalidMark"), .ref (ad "MissingError"), .ref (ad "StateError"), .ref (ad "LimitError")] = some false
  bar : PySem.W.kitOne K (.ref (ad "InvalidRow")) (.ref (ad "BarredError")) = some true
  val : PySem.W.kitOne K (.ref (ad "InvalidRow")) (.type "ValueError") = some true
  exm : PySem.W.exmOne K (.ref (ad "InvalidRow")) (.ref (ad "InvalidRow")) = some true
def aheadD : PyData → PyData → Bool
  | .str x, .str y => aheadS x y
  | _, _ => false
def toldV (a b : V) (d e : PyData) : List V :=
  if wordD d = true then (if wordD e = true then [.str "told", .bl (aheadD d e), .bl (aheadD d e)] else [.str "row", b, .bl true]) else [.str "row", a, .bl true]
def spTold : Sp := fun vs H Q _ => ∃ (a b : V) (d e : PyData), vs = [a, b] ∧ Dx H a d ∧ Dx H b e ∧ Tame d ∧ Tame e ∧ ∀ (H' : Hp) (p : Addr), Same H H' → H' p = some (.lst (toldV a b d e)) → Q (.ref p) H'
section
variable {P : Program} {w : World} {K : PySem.W.Frag} {mg : Str → Option Value} {base : Heap} {ad : Str → Addr} {fd : Str → FuncData}
theorem scTold : FnScope ["_law_near", "_law_far", "_law_told_here", "_law_e", "_law_alone"] ["_law_near", "_law_far"] (defScope sTold) := ⟨rfl, rfl, rfl, by decide +kernel, rfl, by decide +kernel, by decide +kernel⟩
theorem ok_told (X : Tx K mg ad fd) (L : TellC K mg ad) : FnOk P w K mg base CX0 5 (ad "_law_told") (fd "_law_told") ["_law_near", "_law_far"] spTold := by
  have G : FnOk P w K mg base (L2.CX P w) 3 (ad "is_ahead") (fd "is_ahead") ["one", "other"] (spIsAhead (ad "InvalidRow")) := ok_is_ahead X L.R
  have kb : KB K (fd "is_ahead") ["one", "other"] ["other", "one"] List.reverse List.reverse := Fun.kb X.F_is_ahead vals_rev fun _ _ _ _ _ _ ws hl => by
    rw [List.length_reverse] at hl
    match ws, hl with
    | [_, _], _ => rfl
  have xf : XfC K (ad "InvalidRow") := ⟨L.R.T.ec.ga, L.R.T.ec.gg, L.R.T.ec.be, L.R.T.ec.hd⟩
  refine X.F__law_told.ok scTold (fun vs H Q E h => ?_) (fun cdv A outer s H vs Q E hr h => ?_)
  · obtain ⟨a, b, d, e, rfl, _⟩ := h
    rfl
  · obtain ⟨a, b, d, e, rfl, ha, hb, ta, tb, q⟩ := h
    have hr3 : Room 3 _ := hr.mono (by decide)
    refine ⟨_, pss_cons (ps_set (i := 2) scTold.nd rfl (.inl rfl) (by exact (pe_lst (pa_cons pe_str pa_nil))))
      (pss_cons (ps_try_as (i := 3) (tb := fun W => tAsg (tLst (tCons (tC (.str "told")) (tCons (tCallS (spIsAhead (ad "InvalidRow")) (WE W) (tCons (tVar 0) (tCons (tVar 1) tNil))) (tCons (tCallKW (spIsAhead (ad "InvalidRow")) List.reverse (WE W) (tCons (tVar 1) (tCons (tVar 0) tNil))) tNil)))) (gName 2))
          (ts := fun a cls d => tSeq (tAsg (tNotV (tCB (rIsCT K cls (ad "InvalidRow") a d) (tCons (tVar 3) (tCons (tTup (tCons (tC (.ref (ad "InvalidWord"))) (tCons (tC (.ref (ad "InvalidBlock"))) (tCons (tC (.ref (ad "InvalidMark"))) (tCons (tC (.ref (ad "MissingError"))) (tCons (tC (.ref (ad "StateError"))) (tCons (tC (.ref (ad "LimitError"))) tNil))))))) tNil)))) (gName 4))
            (tAsg (tLst (tCons (tC (.str "row")) (tCons (tXf a cls d (ad "InvalidRow") "value" (tVar 3)) (tCons (tAndV (tCB (rIsC K cls (ad "InvalidRow") a d) (tCons (tVar 3) (tCons (tC (.ref (ad "BarredError"))) tNil))) (tAndV (tCB (rIsC K cls (ad "InvalidRow") a d) (tCons (tVar 3) (tCons (tC (.ty "ValueError")) tNil))) (tVar 4))) tNil)))) (gName 2)))
          (Wout := fun _ _ _ _ => False) rfl rfl scTold.nd rfl rfl ⟨rfl, by decide, Or.inl L.R.G⟩ takes0
          (fun W pn xe tk _ => pss_one (ps_set (i := 2) scTold.nd rfl (Or.inl rfl) (by exact (pe_lst (pa_cons pe_str (pa_cons (pe_callS G hr3 rfl X.g_is_ahead X.F_is_ahead.kp X.b_is_ahead (fun σ => passAt tk σ) (by exact (pa_cons (pv 0) (pa_cons (pv 1) pa_nil)))) (pa_cons (pe_callKWS G hr3 rfl X.g_is_ahead X.F_is_ahead.kp kb (fun σ => passAt tk σ) (by exact (pk_cons (pv 1) (pk_cons (pv 0) pk_nil)))) pa_nil)))))))
          (fun a oe cls d pn hz hf => pss_cons (ps_set (i := 4) scTold.nd rfl (Or.inl rfl) (by exact (pe_not (pe_callB (call_isCT hz hf) (by rfl) X.m_isinstance (by decide +kernel) (pa_cons (pv 3) (pa_cons (pe_tup (pa_cons (pe_glob (v := .ref (ad "InvalidWord")) (by rfl) L.g1 rfl) (pa_cons (pe_glob (v := .ref (ad "InvalidBlock")) (by rfl) L.g2 rfl) (pa_cons (pe_glob (v := .ref (ad "InvalidMark")) (by rfl) L.g3 rfl) (pa_cons (pe_glob (v := .ref (ad "MissingError")) (by rfl) L.g4 rfl) (pa_cons (pe_glob (v := .ref (ad "StateError")) (by rfl) L.g5 rfl) (pa_cons (pe_glob (v := .ref (ad "LimitError")) (by rfl) L.g6 rfl) pa_nil))))))) pa_nil))))))
            (pss_one (ps_set (i := 2) scTold.nd rfl (Or.inl rfl) (by exact (pe_lst (pa_cons pe_str (pa_cons (pe_xf xf L.R.F.no hz hf (pv 3)) (pa_cons (pe_and (pe_callB (call_isC hz hf) (by rfl) X.m_isinstance (by decide +kernel) (pa_cons (pv 3) (pa_cons (pe_glob (v := .ref (ad "BarredError")) (by rfl) L.gB rfl) pa_nil))) (pe_and (pe_callB (call_isC hz hf) (by rfl) X.m_isinstance (by decide +kernel) (pa_cons (pv 3) (pa_cons (pe_bltn (v := .ty "ValueError") (by rfl) X.m_ValueError (by decide +kernel) rfl) pa_nil))) (pe_one (pv 4)))) pa_nil)))))))))
        (pss_one (ps_ret (pv 2)))), ?_⟩
    refine ⟨(by show 1 ≤ sizeLine; decide), fun l hl => ?_⟩
    have ha1 := ha.same (Same.new hl (o := .lst [.str "none"]))
    have hb1 := hb.same (Same.new hl (o := .lst [.str "none"]))
    have six : Paired ClsV [.ref (ad "InvalidWord"), .ref (ad "InvalidBlock"), .ref (ad "InvalidMark"), .ref (ad "MissingError"), .ref (ad "StateError"), .ref (ad "LimitError")] [.ref (ad "InvalidWord"), .ref (ad "InvalidBlock"), .ref (ad "InvalidMark"), .ref (ad "MissingError"), .ref (ad "StateError"), .ref (ad "LimitError")] := .cons (.own _) (.cons (.own _) (.cons (.own _) (.cons (.own _) (.cons (.own _) (.cons (.own _) .nil)))))
    refine ⟨a, rfl, b, rfl, a, b, d, e, rfl, ha1, hb1, ta, tb, fun w1 H2 p hs2 hp2 => ?_, fun w1 w2 H2 p hs2 hp2 => ?_, fun x y ex ey w1 w2 H2 hs2 => ?_⟩
    · have told : toldV a b d e = [.str "row", a, .bl true] := by unfold toldV; rw [w1]; rfl
      -- the suite: the error's own dict stands at p
      refine ⟨true, L.exm, fun _ a0 ha0 => ?_, fun z => Bool.noConfusion z⟩
      refine ⟨_, rfl, (by show 6 ≤ sizeLine; decide), fun t ht => ?_⟩
      have npt : p ≠ t := ne_of_none upd_same ht
      refine ⟨p, _, t, _, _, false, rfl, rfl, rfl, by rw [upd_ne npt]; exact upd_same, L.R.T.ec, upd_same, six, L.none, false, rfl, ?_⟩
      have hp3 : (upd (upd H2 p (.xd [(("value" : Str), a)])) t (.tup [.ref (ad "InvalidWord"), .ref (ad "InvalidBlock"), .ref (ad "InvalidMark"), .ref (ad "MissingError"), .ref (ad "StateError"), .ref (ad "LimitError")])) p = some (.xd [(("value" : Str), a)]) := by rw [upd_ne npt]; exact upd_same
      refine ⟨_, rfl, rfl, rfl, p, _, a, rfl, hp3, rfl, _, rfl, p, _, .ref (ad "BarredError"), _, true, rfl, rfl, rfl, hp3, L.R.T.ec, .own _, L.bar, true, rfl, iteT ?_⟩
      refine ⟨_, rfl, p, _, .ty "ValueError", _, true, rfl, rfl, rfl, hp3, L.R.T.ec, .ty _, L.val, true, rfl, iteT ?_⟩
      refine ⟨_, rfl, (by show 3 ≤ sizeLine; decide), fun l2 hl2 => ?_⟩
      refine ⟨_, rfl, q _ l2 (fun b o z => ?_) ?_⟩
      · exact Same.new hl2 b o (Same.new ht b o (Same.new hp2 b o (hs2 b o (Same.new hl b o z))))
      · rw [upd_same, told]
        rfl
    · have told : toldV a b d e = [.str "row", b, .bl true] := by unfold toldV; rw [w1, w2]; rfl
      -- the suite: the error's own dict stands at p
      refine ⟨true, L.exm, fun _ a0 ha0 => ?_, fun z => Bool.noConfusion z⟩
      refine ⟨_, rfl, (by show 6 ≤ sizeLine; decide), fun t ht => ?_⟩
      have npt : p ≠ t := ne_of_none upd_same ht
      refine ⟨p, _, t, _, _, false, rfl, rfl, rfl, by rw [upd_ne npt]; exact upd_same, L.R.T.ec, upd_same, six, L.none, false, rfl, ?_⟩
      have hp3 : (upd (upd H2 p (.xd [(("value" : Str), b)])) t (.tup [.ref (ad "InvalidWord"), .ref (ad "InvalidBlock"), .ref (ad "InvalidMark"), .ref (ad "MissingError"), .ref (ad "StateError"), .ref (ad "LimitError")])) p = some (.xd [(("value" : Str), b)]) := by rw [upd_ne npt]; exact upd_same
      refine ⟨_, rfl, rfl, rfl, p, _, b, rfl, hp3, rfl, _, rfl, p, _, .ref (ad "BarredError"), _, true, rfl, rfl, rfl, hp3, L.R.T.ec, .own _, L.bar, true, rfl, iteT ?_⟩
      refine ⟨_, rfl, p, _, .ty "ValueError", _, true, rfl, rfl, rfl, hp3, L.R.T.ec, .ty _, L.val, true, rfl, iteT ?_⟩
      refine ⟨_, rfl, (by show 3 ≤ sizeLine; decide), fun l2 hl2 => ?_⟩
      refine ⟨_, rfl, q _ l2 (fun b o z => ?_) ?_⟩
      · exact Same.new hl2 b o (Same.new ht b o (Same.new hp2 b o (hs2 b o (Same.new hl b o z))))
      · rw [upd_same, told]
        rfl
    · have told : toldV a b d e = [.str "told", .bl (aheadD d e), .bl (aheadD d e)] := by unfold toldV; rw [w1, w2]; rfl
      have ea : aheadD d e = aheadS x y := by rw [ex, ey]; rfl
      refine ⟨b, rfl, a, rfl, a, b, d, e, rfl, ha1.same hs2, hb1.same hs2, ta, tb, fun z => ?_, fun _ z => ?_, fun x' y' ex' ey' _ _ H3 hs3 => ?_⟩
      · rw [w1] at z; cases z
      · rw [w2] at z; cases z
      · obtain rfl : x = x' := PyData.str.inj (ex.symm.trans ex')
        obtain rfl : y = y' := PyData.str.inj (ey.symm.trans ey')
        refine ⟨(by show 3 ≤ sizeLine; decide), fun l2 hl2 => ?_⟩
        refine ⟨_, rfl, q _ l2 (fun b o z => Same.new hl2 b o (hs3 b o (hs2 b o (Same.new hl b o z)))) ?_⟩
        rw [upd_same, told, ea]
end
end K11
end

section
set_option maxHeartbeats 4000000
/-! the law's look at a thing -/
namespace K11
open PySem PySem.Spec PyProof.Rows L2
def spLooks : Sp := fun vs H Q _ => ∃ (v : V) (d : PyData), vs = [v] ∧ Dx H v d ∧ Tame d ∧ ∀ H', Same H H' → Q (.bl true) H'
theorem Same.trans {H1 H2 H3 : Hp} (a : Same H1 H2) (b : Same H2 H3) : Same H1 H3 := fun x o e => b x o (a x o e)
def six (i c w : Bool) : PyData := .list [.bool i, .bool i, .bool c, .bool c, .bool w, .bool w]
theorem six_len : ∀ i c w : Bool, (six i c w).shown.length ≤ 1000 := by decide +kernel
theorem six_sh : ∀ i c w : Bool, (six i c w).showable = true := by decide +kernel
theorem six_dp : ∀ i c w : Bool, (six i c w).depth ≤ 40 := by decide +kernel
section
variable {P : Program} {w : World} {K : PySem.W.Frag} {mg : Str → Option Value} {base : Heap} {ad : Str → Addr} {fd : Str → FuncData}
theorem scLooksRight : FnScope ["_law_thing", "_law_told_here", "_law_plain", "_law_word_here", "_law_counts"] ["_law_thing"] (defScope sLooksRight) := ⟨rfl, rfl, rfl, by decide +kernel, rfl, by decide +kernel, by decide +kernel⟩
theorem kb1 {x : Str} {st : Stmt} {f : Addr} {fdv : FuncData} {ps : List Str} (F : Fun K x x st f fdv) (h : ∀ (kV doc pm : Value) (an : Option Addr) (cdv ct : Value) (u : Value), bindArgs (PySem.W.fnOf x x (defArgs st) (defBody st) (defScope st) .none kV doc pm an cdv ct) ⟨[], ps.zip [u]⟩ = pure (ps.zip [u])) (h1 : ps.length = 1) : KB K fdv ps ps id id :=
  Fun.kb F (fun r => r) fun kV doc pm an cdv ct ws hl => match ws, (show ws.length = 1 from hl.trans h1) with | [u], _ => h kV doc pm an cdv ct u
theorem ok_looks (X : Tx K mg ad fd) : FnG P w K mg base 3 (ad "_law_looks_right") (fd "_law_looks_right") ["_law_thing"] spLooks := by
  have GI : FnOk P w K mg base CX0 1 (ad "is_integer") (fd "is_integer") ["value"] (spB wholeD) := ok_is_integer X
  have GC : FnOk P w K mg base CX0 2 (ad "is_count") (fd "is_count") ["value"] (spB countD) := ok_is_count X
  have GR : FnOk P w K mg base CX0 1 (ad "is_row") (fd "is_row") ["value"] (spB wordD) := ok_is_row X
  have GW : FnOk P w K mg base CX0 1 (ad "_law_is_whole") (fd "_law_is_whole") ["_law_thing"] (spB wholeD) := ok_whole X
  have GS : FnOk P w K mg base CX0 1 (ad "_law_is_word") (fd "_law_is_word") ["_law_thing"] (spB wordD) := ok_is_word X
  have kI : KB K (fd "is_integer") ["value"] ["value"] id id := kb1 X.F_is_integer (fun _ _ _ _ _ _ _ => rfl) rfl
  have kC : KB K (fd "is_count") ["value"] ["value"] id id := kb1 X.F_is_count (fun _ _ _ _ _ _ _ => rfl) rfl
  have kR : KB K (fd "is_row") ["value"] ["value"] id id := kb1 X.F_is_row (fun _ _ _ _ _ _ _ => rfl) rfl
  refine fnG_body X.F__law_looks_right scLooksRight (fun vs H Q E h => ?_) (fun cdv A outer s H vs Q E hr h => ?_)
  · obtain ⟨v, d, rfl, _⟩ := h
    rfl
  · obtain ⟨v, d, rfl, hd, ht, q⟩ := h
    have R2 : Room 2 _ := hr.rm
    have R1 : Room 1 _ := hr.rm.mono (by decide)
    refine ⟨_, (pss_cons (ps_set (i := 1) scLooksRight.nd rfl (.inl rfl) (by exact (pe_lst (pa_cons (pe_call GI R1 (by rfl) X.g_is_integer X.F_is_integer.kp X.b_is_integer .nil pass0 (pa_cons (pv 0) pa_nil)) (pa_cons (pe_callKW GI R1 (by rfl) X.g_is_integer X.F_is_integer.kp kI (by exact (pk_cons (pv 0) pk_nil))) (pa_cons (pe_call GC R2 (by rfl) X.g_is_count X.F_is_count.kp X.b_is_count .nil pass0 (pa_cons (pv 0) pa_nil)) (pa_cons (pe_callKW GC R2 (by rfl) X.g_is_count X.F_is_count.kp kC (by exact (pk_cons (pv 0) pk_nil))) pa_nil)))))))
  (pss_cons (ps_set (i := 1) scLooksRight.nd rfl (.inl rfl) (by exact (pe_op op_cat (pv 1) (pe_lst (pa_cons (pe_call GR R1 (by rfl) X.g_is_row X.F_is_row.kp X.b_is_row .nil pass0 (pa_cons (pv 0) pa_nil)) (pa_cons (pe_callKW GR R1 (by rfl) X.g_is_row X.F_is_row.kp kR (by exact (pk_cons (pv 0) pk_nil))) pa_nil))))))
  (pss_cons (ps_par (i := 2) (j := 3) (by rfl) scLooksRight.nd rfl rfl (by decide) rfl rfl (pa_cons (pe_call GW R1 (by rfl) X.g__law_is_whole X.F__law_is_whole.kp X.b__law_is_whole .nil pass0 (pa_cons (pv 0) pa_nil)) (pa_cons (pe_call GS R1 (by rfl) X.g__law_is_word X.F__law_is_word.kp X.b__law_is_word .nil pass0 (pa_cons (pv 0) pa_nil)) pa_nil)) (by rfl))
  (pss_cons (ps_set (i := 4) scLooksRight.nd rfl (.inl rfl) (by exact (pe_and (pv 2) (pe_one (pe_cmpR op_ge (pv 0) pe_int (nomark _))))))
  (pss_one (ps_ret (by exact (pe_cmpR op_eq (pe_callB (call_repr hr.gd hr.rm.units X.sys) (by rfl) X.m_repr (by decide +kernel) (pa_cons (pv 1) pa_nil)) (pe_callB (call_repr hr.gd hr.rm.units X.sys) (by rfl) X.m_repr (by decide +kernel) (pa_cons (pe_lst (pa_cons (pv 2) (pa_cons (pv 2) (pa_cons (pv 4) (pa_cons (pv 4) (pa_cons (pv 3) (pa_cons (pv 3) pa_nil))))))) pa_nil)) (nomark _))))))))), ?_⟩
    -- the four answers
    refine ⟨v, rfl, v, d, rfl, hd, ht, fun H1 s1 => ⟨v, rfl, v, d, rfl, hd.same s1, ht, fun H2 s2 => ?_⟩⟩
    have s2' := Same.trans s1 s2
    refine ⟨v, rfl, v, d, rfl, hd.same s2', ht, fun H3 s3 => ⟨v, rfl, v, d, rfl, hd.same (Same.trans s2' s3), ht, fun H4 s4 => ⟨(by show 4 ≤ sizeLine; decide), fun l hl => ?_⟩⟩⟩
    have s4' : Same H (upd H4 l (.lst [.bl (wholeD d), .bl (wholeD d), .bl (countD d), .bl (countD d)])) := Same.trans (Same.trans (Same.trans s2' s3) s4) (Same.new hl)
    refine ⟨.ref l, rfl, v, rfl, v, d, rfl, hd.same s4', ht, fun H5 s5 => ⟨v, rfl, v, d, rfl, hd.same (Same.trans s4' s5), ht, fun H6 s6 => ⟨(by show 2 ≤ sizeLine; decide), fun l2 hl2 => ?_⟩⟩⟩
    have el : H6 l = some (.lst [.bl (wholeD d), .bl (wholeD d), .bl (countD d), .bl (countD d)]) := s6 _ _ (s5 _ _ upd_same)
    refine ⟨l, l2, _, _, rfl, rfl, by rw [upd_ne (ne_of_none el hl2)]; exact el, upd_same, (by show 6 ≤ sizeLine; decide), fun m hm => ?_⟩
    have s6' := Same.trans (Same.trans s4' s5) s6
    have s7 := Same.trans (Same.trans s6' (Same.new hl2 (o := .lst [.bl (wordD d), .bl (wordD d)]))) (Same.new hm (o := .lst [.bl (wholeD d), .bl (wholeD d), .bl (countD d), .bl (countD d), .bl (wordD d), .bl (wordD d)]))
    refine ⟨v, rfl, v, d, rfl, hd.same s7, ht, fun H8 s8 => ⟨v, rfl, v, d, rfl, hd.same (Same.trans s7 s8), ht, fun H9 s9 => ⟨_, _, rfl, ?_⟩⟩⟩
    have em : H9 m = some (.lst [.bl (wholeD d), .bl (wholeD d), .bl (countD d), .bl (countD d), .bl (wordD d), .bl (wordD d)]) := s9 _ _ (s8 _ _ upd_same)
    have s9' := Same.trans (Same.trans s7 s8) s9
    have tail : (tRet (tOp rEq (tCB rRepr (tCons (tVar 1) tNil)) (tCB rRepr (tCons (tLst (tCons (tVar 2) (tCons (tVar 2) (tCons (tVar 4) (tCons (tVar 4) (tCons (tVar 3) (tCons (tVar 3) tNil))))))) tNil)))) { nx := fun _ H' => Q .non H', rt := Q } [some v, some (.ref m), some (.bl (wholeD d)), some (.bl (wordD d)), some (.bl (countD d))] H9 := by
      have big : ∀ i c w : Bool, (six i c w).shown.length ≤ sizeLine := fun i c w => Nat.le_trans (six_len i c w) (by rw [sizeLine_eq]; decide)
      refine ⟨_, rfl, m, six (wholeD d) (countD d) (wordD d), rfl, .lst em (.cons (.bl _) (.cons (.bl _) (.cons (.bl _) (.cons (.bl _) (.cons (.bl _) (.cons (.bl _) .nil)))))), six_sh _ _ _, six_dp _ _ _, big _ _ _, ?_⟩
      refine ⟨_, rfl, _, rfl, _, rfl, _, rfl, _, rfl, _, rfl, (by show 6 ≤ sizeLine; decide), fun n hn => ⟨n, six (wholeD d) (countD d) (wordD d), rfl, .lst upd_same (.cons (.bl _) (.cons (.bl _) (.cons (.bl _) (.cons (.bl _) (.cons (.bl _) (.cons (.bl _) .nil)))))), six_sh _ _ _, six_dp _ _ _, big _ _ _, rfl, ?_⟩⟩
      rw [decide_eq_true rfl]
      exact q _ (Same.trans s9' (Same.new hn))
    cases hd with
    | int i => exact ⟨_, rfl, true, rfl, iteT ⟨_, rfl, i, 0, rfl, rfl, tail⟩⟩
    | non => exact ⟨_, rfl, false, rfl, iteF tail⟩
    | bl b => exact ⟨_, rfl, false, rfl, iteF tail⟩
    | str x => exact ⟨_, rfl, false, rfl, iteF tail⟩
    | lst e _ => exact ⟨_, rfl, false, rfl, iteF tail⟩
    | tup e _ => exact ⟨_, rfl, false, rfl, iteF tail⟩
    | dic e _ => exact ⟨_, rfl, false, rfl, iteF tail⟩
end
end K11
end

section
set_option maxHeartbeats 4000000
/-! the law's look at the order of two things -/
namespace K11
open PySem PySem.Spec PyProof.Rows L2
def spOrder : Sp := fun vs H Q _ => ∃ (a b : V) (d e : PyData), vs = [a, b] ∧ Dx H a d ∧ Dx H b e ∧ Tame d ∧ Tame e ∧ ∀ H', Same H H' → Q (.bl true) H'
def rowD (d : PyData) : PyData := .list [.str "row", d, .bool true]
theorem row_len {d : PyData} (h : Tame d) : (rowD d).shown.length ≤ sizeLine := by
  have hz := h.sz
  have e : (rowD d).shown = listText [reprText "row", d.shown, "True"] := by
    show PyData.shown (.list [.str "row", d, .bool true]) = _
    simp only [PyData.shown, PyData.shownAll, if_true]
  rw [e]
  have e2 : (listText [reprText "row", d.shown, "True"]).length = 15 + d.shown.length := by
    show (textFrom 0 "[" [reprText "row", d.shown, "True"] ++ "]").length = _
    rw [strLen_append]
    show (("[" : Str) ++ (if (0 : Nat) > 0 then ", " else "" : String) ++ reprText "row" ++ (if (0 + 1 : Nat) > 0 then ", " else "" : String) ++ d.shown ++ (if (0 + 1 + 1 : Nat) > 0 then ", " else "" : String) ++ ("True" : Str)).length + _ = _
    rw [strLen_append, strLen_append, strLen_append, strLen_append, strLen_append, strLen_append]
    have l1 : (reprText "row").length = 5 := by decide +kernel
    have l2 : (("[" : Str)).length = 1 := by decide +kernel
    have l3 : ((if (0 : Nat) > 0 then ", " else "" : String) : Str).length = 0 := by decide +kernel
    have l4 : ((if (0 + 1 : Nat) > 0 then ", " else "" : String) : Str).length = 2 := by decide +kernel
    have l5 : ((if (0 + 1 + 1 : Nat) > 0 then ", " else "" : String) : Str).length = 2 := by decide +kernel
    have l6 : (("True" : Str)).length = 4 := by decide +kernel
    have l7 : (("]" : Str)).length = 1 := by decide +kernel
    omega
  rw [e2, sizeLine_eq]
  omega
theorem row_sh {d : PyData} (h : Tame d) : (rowD d).showable = true := by
  show PyData.showable (.list [.str "row", d, .bool true]) = true
  simp [PyData.showable, PyData.showableAll, h.sh]
theorem row_dp {d : PyData} (h : Tame d) : (rowD d).depth ≤ 40 := by
  have hd := h.dp
  show PyData.depth (.list [.str "row", d, .bool true]) ≤ 40
  simp only [PyData.depth, PyData.depthAll]
  omega
def tellD (b : Bool) : PyData := .list [.str "told", .bool b, .bool b]
theorem tell_len : ∀ b : Bool, (tellD b).shown.length ≤ 1000 := by decide +kernel
theorem tell_sh : ∀ b : Bool, (tellD b).showable = true := by decide +kernel
theorem tell_dp : ∀ b : Bool, (tellD b).depth ≤ 40 := by decide +kernel
section
variable {P : Program} {w : World} {K : PySem.W.Frag} {mg : Str → Option Value} {base : Heap} {ad : Str → Addr} {fd : Str → FuncData}
theorem scOrderRight : FnScope ["_law_near", "_law_far", "_law_due"] ["_law_near", "_law_far"] (defScope sOrderRight) := ⟨rfl, rfl, rfl, by decide +kernel, rfl, by decide +kernel, by decide +kernel⟩
theorem ok_order (X : Tx K mg ad fd) (L : TellC K mg ad) : FnG P w K mg base 6 (ad "_law_order_right") (fd "_law_order_right") ["_law_near", "_law_far"] spOrder := by
  have GS : FnOk P w K mg base CX0 1 (ad "_law_is_word") (fd "_law_is_word") ["_law_thing"] (spB wordD) := ok_is_word X
  have GA : FnOk P w K mg base CX0 1 (ad "_law_ahead") (fd "_law_ahead") ["_law_near", "_law_far"] spAhead := ok_ahead X
  have GT : FnOk P w K mg base CX0 5 (ad "_law_told") (fd "_law_told") ["_law_near", "_law_far"] spTold := ok_told X L
  refine fnG_body X.F__law_order_right scOrderRight (fun vs H Q E h => ?_) (fun cdv A outer s H vs Q E hr h => ?_)
  · obtain ⟨a, b, d, e, rfl, _⟩ := h
    rfl
  · obtain ⟨a, b, d, e, rfl, ha, hb, ta, tb, q⟩ := h
    have R5 : Room 5 _ := hr.rm
    have R1 : Room 1 _ := hr.rm.mono (by decide)
    refine ⟨_, (pss_cons (ps_if (pt_not (pt_val (pe_call GS R1 (by rfl) X.g__law_is_word X.F__law_is_word.kp X.b__law_is_word .nil pass0 (pa_cons (pv 0) pa_nil))))
  (pss_one (ps_ret (by exact (pe_cmpR op_eq (pe_callB (call_repr hr.gd hr.rm.units X.sys) (by rfl) X.m_repr (by decide +kernel) (pa_cons (pe_call GT R5 (by rfl) X.g__law_told X.F__law_told.kp X.b__law_told .nil pass0 (pa_cons (pv 0) (pa_cons (pv 1) pa_nil))) pa_nil)) (pe_callB (call_repr hr.gd hr.rm.units X.sys) (by rfl) X.m_repr (by decide +kernel) (pa_cons (pe_lst (pa_cons pe_str (pa_cons (pv 0) (pa_cons pe_bl pa_nil)))) pa_nil)) (nomark _)))))
  pss_nil)
  (pss_cons (ps_if (pt_not (pt_val (pe_call GS R1 (by rfl) X.g__law_is_word X.F__law_is_word.kp X.b__law_is_word .nil pass0 (pa_cons (pv 1) pa_nil))))
  (pss_one (ps_ret (by exact (pe_cmpR op_eq (pe_callB (call_repr hr.gd hr.rm.units X.sys) (by rfl) X.m_repr (by decide +kernel) (pa_cons (pe_call GT R5 (by rfl) X.g__law_told X.F__law_told.kp X.b__law_told .nil pass0 (pa_cons (pv 0) (pa_cons (pv 1) pa_nil))) pa_nil)) (pe_callB (call_repr hr.gd hr.rm.units X.sys) (by rfl) X.m_repr (by decide +kernel) (pa_cons (pe_lst (pa_cons pe_str (pa_cons (pv 1) (pa_cons pe_bl pa_nil)))) pa_nil)) (nomark _)))))
  pss_nil)
  (pss_cons (ps_set (i := 2) scOrderRight.nd rfl (.inl rfl) (by exact (pe_call GA R1 (by rfl) X.g__law_ahead X.F__law_ahead.kp X.b__law_ahead .nil pass0 (pa_cons (pv 0) (pa_cons (pv 1) pa_nil)))))
  (pss_one (ps_ret (by exact (pe_cmpR op_eq (pe_callB (call_repr hr.gd hr.rm.units X.sys) (by rfl) X.m_repr (by decide +kernel) (pa_cons (pe_call GT R5 (by rfl) X.g__law_told X.F__law_told.kp X.b__law_told .nil pass0 (pa_cons (pv 0) (pa_cons (pv 1) pa_nil))) pa_nil)) (pe_callB (call_repr hr.gd hr.rm.units X.sys) (by rfl) X.m_repr (by decide +kernel) (pa_cons (pe_lst (pa_cons pe_str (pa_cons (pv 2) (pa_cons (pv 2) pa_nil)))) pa_nil)) (nomark _)))))))), ?_⟩
    -- the told list against a new one: rows
    have rowT : ∀ (u : V) (c : PyData) (H1 : Hp), Same H H1 → Dx H u c → Tame c → toldV a b d e = [.str "row", u, .bl true] → ∀ (t : TE), ∀ σ : L2.St, (∀ (H2 : Hp) (Q2 : VK), Q2 u H2 → t σ H2 Q2) → σ[0]? = some (some a) → σ[1]? = some (some b) →
        (tOp rEq (tCB rRepr (tCons (tCall spTold [] E0 (tCons (tVar 0) (tCons (tVar 1) tNil))) tNil)) (tCB rRepr (tCons (tLst (tCons (tC (.str "row")) (tCons t (tCons (tC (.bl true)) tNil)))) tNil))) σ H1 Q := by
      intro u c H1 s1 hu tu told t σ ht h0 h1
      refine ⟨a, h0, b, h1, a, b, d, e, rfl, ha.same s1, hb.same s1, ta, tb, fun H2 p s2 hp => ?_⟩
      rw [told] at hp
      refine ⟨p, rowD c, rfl, .lst hp (.cons (.str _) (.cons (hu.same (Same.trans s1 s2)) (.cons (.bl _) .nil))), row_sh tu, row_dp tu, row_len tu, ?_⟩
      refine ht _ _ ⟨(by show 3 ≤ sizeLine; decide), fun n hn => ⟨n, rowD c, rfl, .lst upd_same (.cons (.str _) (.cons (hu.same (Same.trans (Same.trans s1 s2) (Same.new hn))) (.cons (.bl _) .nil))), row_sh tu, row_dp tu, row_len tu, rfl, ?_⟩⟩
      rw [decide_eq_true rfl]
      exact q _ (Same.trans (Same.trans s1 s2) (Same.new hn))
    refine ⟨a, rfl, a, d, rfl, ha, ta, fun H1 s1 => ⟨_, rfl, ?_⟩⟩
    cases w1 : wordD d with
    | false => exact iteT (rowT a d H1 s1 ha ta (by unfold toldV; rw [w1]; rfl) (tVar 0) _ (fun H2 Q2 z => ⟨a, rfl, z⟩) rfl rfl)
    | true =>
      refine iteF ⟨b, rfl, b, e, rfl, hb.same s1, tb, fun H2 s2 => ⟨_, rfl, ?_⟩⟩
      cases w2 : wordD e with
      | false => exact iteT (rowT b e H2 (Same.trans s1 s2) hb tb (by unfold toldV; rw [w1, w2]; rfl) (tVar 1) _ (fun H2 Q2 z => ⟨b, rfl, z⟩) rfl rfl)
      | true =>
        refine iteF ?_
        cases ha with
        | str x =>
          cases hb with
          | str y =>
            have told : toldV (.str x) (.str y) (.str x) (.str y) = [.str "told", .bl (aheadS x y), .bl (aheadS x y)] := by unfold toldV; rw [w1, w2]; rfl
            refine ⟨_, rfl, _, rfl, x, y, rfl, (ta.len x rfl).1, (tb.len y rfl).1, w1, w2, fun H3 s3 => ?_⟩
            have s13 := Same.trans (Same.trans s1 s2) s3
            refine ⟨_, rfl, _, rfl, .str x, .str y, .str x, .str y, rfl, .str x, .str y, ta, tb, fun H4 p s4 hp => ?_⟩
            rw [told] at hp
            have big : ∀ k : Bool, (tellD k).shown.length ≤ sizeLine := fun k => Nat.le_trans (tell_len k) (by rw [sizeLine_eq]; decide)
            refine ⟨p, tellD (aheadS x y), rfl, .lst hp (.cons (.str _) (.cons (.bl _) (.cons (.bl _) .nil))), tell_sh _, tell_dp _, big _, ?_⟩
            refine ⟨_, rfl, _, rfl, (by show 3 ≤ sizeLine; decide), fun n hn => ⟨n, tellD (aheadS x y), rfl, .lst upd_same (.cons (.str _) (.cons (.bl _) (.cons (.bl _) .nil))), tell_sh _, tell_dp _, big _, rfl, ?_⟩⟩
            rw [decide_eq_true rfl]
            exact q _ (Same.trans (Same.trans s13 s4) (Same.new hn))
          | _ => cases w2
        | _ => cases w1
end
end K11
end

section
set_option maxHeartbeats 4000000
/-! values of any kind -/
namespace K11
open PySem PySem.Spec PyProof.Rows L2
def oddD : List PyData := [.none, .bool true, .bool false, .int 0, .int 1, .int (-1), .str "", .str "a", .str "e", .str "A", .str "a b", .str "ab\n", .list [], .list [.str "a"], .tuple [], .tuple [.str "a", .str "b"], .dict [], .dict [(.str "a", .int 0)],
  .int (10 ^ 29), .int (-(10 ^ 29)), .str "abcd", .str " a", .str "a-"]
def strB : PyData → Bool
  | .str z => decide (z.length ≤ 5000) && z.cps.toList.all (fun c => decide (c < 1114112))
  | _ => true
theorem tame_of {d : PyData} (h1 : d.showable = true) (h2 : d.depth ≤ 10) (h3 : d.shown.length ≤ 60000) (h4 : strB d = true) : Tame d := by
  refine ⟨fun z e => ?_, h1, h2, h3⟩
  subst e
  obtain ⟨a, b⟩ := Bool.and_eq_true_iff.mp h4
  exact ⟨of_decide_eq_true a, fun c hc => of_decide_eq_true (List.all_eq_true.mp b c hc)⟩
theorem odd_tame : ∀ d ∈ oddD, Tame d := by
  intro d h
  have k : ∀ d ∈ oddD, d.showable = true ∧ d.depth ≤ 10 ∧ d.shown.length ≤ 60000 ∧ strB d = true := by decide +kernel
  obtain ⟨h1, h2, h3, h4⟩ := k d h
  exact tame_of h1 h2 h3 h4
theorem PotAt.ne {H : Hp} {p a : Addr} (h : PotAt H p) (z : H a = none) : a ≠ p := by
  obtain ⟨x, y, e, _⟩ := h
  exact (ne_of_none e z).symm
theorem DxAll.mem {H : Hp} : ∀ {vs : List V} {ds : List PyData} {v : V}, DxAll H vs ds → v ∈ vs → ∃ d ∈ ds, Dx H v d
  | _, _, _, .nil, h => by cases h
  | _, _, _, .cons a b, h => by
    cases h with
    | head => exact ⟨_, List.mem_cons_self .., a⟩
    | tail _ h => obtain ⟨d, hd, x⟩ := b.mem h; exact ⟨d, List.mem_cons_of_mem _ hd, x⟩
theorem none_of {H H' : Hp} {a : Addr} (s : Same H H') (h : H' a = none) : H a = none := by
  cases e : H a with
  | none => rfl
  | some o => rw [s a o e] at h; cases h
def spOdd : Sp := fun vs H Q _ => ∃ (p : Addr), vs = [.ref p] ∧ PotAt H p ∧ ∀ (v : V) (d : PyData) (H' : Hp), Dx H' v d → d ∈ oddD → (∀ a, v = .ref a → H a = none) → PotAt H' p → But p H H' → Q v H'
section
variable {P : Program} {w : World} {K : PySem.W.Frag} {mg : Str → Option Value} {base : Heap} {ad : Str → Addr} {fd : Str → FuncData}
theorem scOdd : FnScope ["_law_pot_here", "_law_found"] ["_law_pot_here"] (defScope sOdd) := ⟨rfl, rfl, rfl, by decide +kernel, rfl, by decide +kernel, by decide +kernel⟩
theorem ok_odd (X : Tx K mg ad fd) : FnOk P w K mg base CX0 3 (ad "_law_odd") (fd "_law_odd") ["_law_pot_here"] spOdd := by
  have GP : FnOk P w K mg base CX0 2 (ad "_law_pick") (fd "_law_pick") ["_law_pot_here", "_law_some"] (spPick K) := ok_pick X
  refine X.F__law_odd.ok scOdd (fun vs H Q E h => ?_) (fun cdv A outer s H vs Q E hr h => ?_)
  · obtain ⟨p, rfl, _⟩ := h
    rfl
  · obtain ⟨p, rfl, hp, q⟩ := h
    have R2 : Room 2 _ := hr
    refine ⟨_, (pss_cons (ps_set (i := 1) scOdd.nd rfl (.inl rfl) (by exact (pe_lst (pa_cons pe_non (pa_cons pe_bl (pa_cons pe_bl (pa_cons pe_int (pa_cons pe_int (pa_cons (pe_un un_neg pe_int) (pa_cons pe_str (pa_cons pe_str (pa_cons pe_str (pa_cons pe_str (pa_cons pe_str (pa_cons pe_str (pa_cons (pe_lst pa_nil) (pa_cons (pe_lst (pa_cons pe_str pa_nil)) (pa_cons (pe_tup pa_nil) (pa_cons (pe_tup (pa_cons pe_str (pa_cons pe_str pa_nil))) (pa_cons pe_dnewK (pa_cons (pe_disp (pps_cons pe_str pe_int pps_nil) (by rfl) (by rfl) (fun z => by cases z) (by decide)) pa_nil)))))))))))))))))))))
  (pss_one (ps_ret (by exact (pe_call GP R2 (by rfl) X.g__law_pick X.F__law_pick.kp X.b__law_pick .nil pass0 (pa_cons (pv 0) (pa_cons (pe_op op_cat (pv 1) (pe_lst (pa_cons (pe_op op_pow pe_int pe_int) (pa_cons (pe_un un_neg (pe_op op_pow pe_int pe_int)) (pa_cons pe_str (pa_cons pe_str (pa_cons pe_str pa_nil))))))) pa_nil))))))), ?_⟩
    refine ⟨1, rfl, Nat.zero_le _, fun a1 h1 => ⟨(by show 1 ≤ sizeLine; decide), fun a2 h2 => ⟨Nat.zero_le _, fun a3 h3 => ⟨(by show 2 ≤ sizeLine; decide), fun a4 h4 => ?_⟩⟩⟩⟩
    refine fun a5 h5 a6 h6 => ⟨upd_same, [((.inr "a" : Key), .int 0)], rfl, by decide, ?_⟩
    rw [upd_upd]
    refine ⟨(by show 18 ≤ sizeLine; decide), fun l hl => ?_⟩
    have s1 := Same.new h1 (o := .lst [])
    have s2 := Same.trans s1 (Same.new h2 (o := .lst [.str "a"]))
    have s3 := Same.trans s2 (Same.new h3 (o := .tup []))
    have s4 := Same.trans s3 (Same.new h4 (o := .tup [.str "a", .str "b"]))
    have s5 := Same.trans s4 (Same.new h5 (o := .dK []))
    have s6 := Same.trans s5 (Same.new h6 (o := .dK (mergeK [] [((.inr "a" : Key), .int 0)])))
    have s7 := Same.trans s6 (Same.new hl (o := .lst [V.non, .bl true, .bl false, .int 0, .int 1, .int (-1), .str "", .str "a", .str "e", .str "A", .str "a b", .str "ab\n", .ref a1, .ref a2, .ref a3, .ref a4, .ref a5, .ref a6]))
    -- what stands, from the end
    have z6 := Same.new hl (o := .lst [V.non, .bl true, .bl false, .int 0, .int 1, .int (-1), .str "", .str "a", .str "e", .str "A", .str "a b", .str "ab\n", .ref a1, .ref a2, .ref a3, .ref a4, .ref a5, .ref a6])
    have z5 := Same.trans (Same.new h6 (o := .dK (mergeK [] [((.inr "a" : Key), .int 0)]))) z6
    have z4 := Same.trans (Same.new h5 (o := .dK [])) z5
    have z3 := Same.trans (Same.new h4 (o := .tup [.str "a", .str "b"])) z4
    have z2 := Same.trans (Same.new h3 (o := .tup [])) z3
    have z1 := Same.trans (Same.new h2 (o := .lst [.str "a"])) z2
    have e1 := z1 a1 _ upd_same
    have e2 := z2 a2 _ upd_same
    have e3 := z3 a3 _ upd_same
    have e4 := z4 a4 _ upd_same
    have e5 := z5 a5 _ upd_same
    have e6 := z6 a6 _ upd_same
    have n1 : a1 ≠ p := hp.ne h1
    have n2 : a2 ≠ p := (hp.same s1).ne h2
    have n3 : a3 ≠ p := (hp.same s2).ne h3
    have n4 : a4 ≠ p := (hp.same s3).ne h4
    have n5 : a5 ≠ p := (hp.same s4).ne h5
    have n6 : a6 ≠ p := (hp.same s5).ne h6
    have cp : CPow 10 29 := ⟨by decide, by decide⟩
    refine ⟨.ref p, rfl, .ref l, rfl, 10, 29, rfl, rfl, cp, 10, 29, rfl, rfl, cp, _, rfl, (by show 5 ≤ sizeLine; decide), fun l2 hl2 => ?_⟩
    have el2 := ne_of_none (s7 _ _ hp.choose_spec.choose_spec.1) hl2
    refine ⟨l, l2, _, _, rfl, rfl, by rw [upd_ne (ne_of_none upd_same hl2)]; exact upd_same, upd_same, (by show 23 ≤ sizeLine; decide), fun m hm => ?_⟩
    have s8 := Same.trans s7 (Same.new hl2 (o := .lst [V.int (10 ^ 29), .int (-(10 ^ 29)), .str "abcd", .str " a", .str "a-"]))
    have g8 := Same.trans (Same.new hl2 (o := .lst [V.int (10 ^ 29), .int (-(10 ^ 29)), .str "abcd", .str " a", .str "a-"])) (Same.new hm (o := .lst ([V.non, .bl true, .bl false, .int 0, .int 1, .int (-1), .str "", .str "a", .str "e", .str "A", .str "a b", .str "ab\n", .ref a1, .ref a2, .ref a3, .ref a4, .ref a5, .ref a6] ++ [V.int (10 ^ 29), .int (-(10 ^ 29)), .str "abcd", .str " a", .str "a-"])))
    have s9 := Same.trans s7 g8
    refine ⟨p, .ref m, rfl, hp.same s9, .inr ⟨m, _, rfl, (hp.same s8).ne hm, upd_same, (by show 0 < 23; decide), (by show 23 ≤ 1000; decide), fun x H' hx hP hB => ?_⟩⟩
    have f1 := hB _ _ n1 (g8 _ _ e1)
    have f2 := hB _ _ n2 (g8 _ _ e2)
    have f3 := hB _ _ n3 (g8 _ _ e3)
    have f4 := hB _ _ n4 (g8 _ _ e4)
    have f5 := hB _ _ n5 (g8 _ _ e5)
    have f6 := hB _ _ n6 (g8 _ _ e6)
    have all : DxAll H' ([V.non, .bl true, .bl false, .int 0, .int 1, .int (-1), .str "", .str "a", .str "e", .str "A", .str "a b", .str "ab\n", .ref a1, .ref a2, .ref a3, .ref a4, .ref a5, .ref a6] ++ [V.int (10 ^ 29), .int (-(10 ^ 29)), .str "abcd", .str " a", .str "a-"]) oddD :=
      .cons .non (.cons (.bl _) (.cons (.bl _) (.cons (.int _) (.cons (.int _) (.cons (.int _) (.cons (.str _) (.cons (.str _) (.cons (.str _) (.cons (.str _) (.cons (.str _) (.cons (.str _)
        (.cons (.lst f1 .nil) (.cons (.lst f2 (.cons (.str _) .nil)) (.cons (.tup f3 .nil) (.cons (.tup f4 (.cons (.str _) (.cons (.str _) .nil))) (.cons (.dic f5 .nil) (.cons (.dic f6 (.cons (.int _) .nil))
        (.cons (.int _) (.cons (.int _) (.cons (.str _) (.cons (.str _) (.cons (.str _) .nil))))))))))))))))))))))
    have fresh : ∀ x ∈ ([V.non, .bl true, .bl false, .int 0, .int 1, .int (-1), .str "", .str "a", .str "e", .str "A", .str "a b", .str "ab\n", .ref a1, .ref a2, .ref a3, .ref a4, .ref a5, .ref a6] ++ [V.int (10 ^ 29), .int (-(10 ^ 29)), .str "abcd", .str " a", .str "a-"]), ∀ a, x = V.ref a → H a = none := (List.forall_mem_cons.2 ⟨(fun _ z => by cases z), (List.forall_mem_cons.2 ⟨(fun _ z => by cases z), (List.forall_mem_cons.2 ⟨(fun _ z => by cases z), (List.forall_mem_cons.2 ⟨(fun _ z => by cases z), (List.forall_mem_cons.2 ⟨(fun _ z => by cases z), (List.forall_mem_cons.2 ⟨(fun _ z => by cases z), (List.forall_mem_cons.2 ⟨(fun _ z => by cases z), (List.forall_mem_cons.2 ⟨(fun _ z => by cases z), (List.forall_mem_cons.2 ⟨(fun _ z => by cases z), (List.forall_mem_cons.2 ⟨(fun _ z => by cases z), (List.forall_mem_cons.2 ⟨(fun _ z => by cases z), (List.forall_mem_cons.2 ⟨(fun _ z => by cases z), (List.forall_mem_cons.2 ⟨(fun _ z => by cases z; exact h1), (List.forall_mem_cons.2 ⟨(fun _ z => by cases z; exact (none_of s1 h2)), (List.forall_mem_cons.2 ⟨(fun _ z => by cases z; exact (none_of s2 h3)), (List.forall_mem_cons.2 ⟨(fun _ z => by cases z; exact (none_of s3 h4)), (List.forall_mem_cons.2 ⟨(fun _ z => by cases z; exact (none_of s4 h5)), (List.forall_mem_cons.2 ⟨(fun _ z => by cases z; exact (none_of s5 h6)), (List.forall_mem_cons.2 ⟨(fun _ z => by cases z), (List.forall_mem_cons.2 ⟨(fun _ z => by cases z), (List.forall_mem_cons.2 ⟨(fun _ z => by cases z), (List.forall_mem_cons.2 ⟨(fun _ z => by cases z), (List.forall_mem_cons.2 ⟨(fun _ z => by cases z), (fun _ z => nomatch z)⟩)⟩)⟩)⟩)⟩)⟩)⟩)⟩)⟩)⟩)⟩)⟩)⟩)⟩)⟩)⟩)⟩)⟩)⟩)⟩)⟩)⟩)⟩)
    obtain ⟨d, hd, dx⟩ := all.mem hx
    exact q x d H' dx hd (fresh x hx) hP (But.trans (But.same s9) hB)
end
end K11
end

section
set_option maxHeartbeats 4000000
/-! a value of any kind against itself; lists of the same things -/
namespace K11
open PySem PySem.Spec PyProof.Rows L2
mutual
def plainD : PyData → Bool
  | .dict _ => false
  | .list ds => plainAll ds
  | .tuple ds => plainAll ds
  | _ => true
def plainAll : List PyData → Bool
  | [] => true
  | d :: ds => plainD d && plainAll ds
end
mutual
theorem Dx.dp {K : PySem.W.Frag} {H : Hp} : ∀ {v : V} {d : PyData}, Dx H v d → plainD d = true → Dp K H v d
  | _, _, .non, _ => .non
  | _, _, .bl b, _ => .bl b
  | _, _, .int i, _ => .int i
  | _, _, .str x, _ => .str x
  | _, _, .lst e h, k => .lst (SqL.of e) (DxAll.dp h k)
  | _, _, .tup e h, k => .tup (SqT.of e) (DxAll.dp h k)
  | _, _, .dic e h, k => by cases k
theorem DxAll.dp {K : PySem.W.Frag} {H : Hp} : ∀ {vs : List V} {ds : List PyData}, DxAll H vs ds → plainAll ds = true → DpAll K H vs ds
  | _, _, .nil, _ => .nil
  | _, _, .cons a b, k => .cons (Dx.dp a (Bool.and_eq_true_iff.mp k).1) (DxAll.dp b (Bool.and_eq_true_iff.mp k).2)
end
theorem Dx.flat {H : Hp} {v : V} {d : PyData} (h : Dx H v d) : flatB v = true ∨ ∃ a, v = .ref a := by
  cases h <;> first | exact .inl rfl | exact .inr ⟨_, rfl⟩
def kindB : PyData → Bool
  | .dict ds => decide (ds.length ≤ 1)
  | d => plainD d && SeqAt.shaped d && PyData.eqv d d
theorem odd_kind : ∀ d ∈ oddD, kindB d = true := by decide +kernel
/-- x == x -/
def rEqO : R2 := fun x y H Q => x = y ∧ (∃ d, Dx H x d ∧ kindB d = true) ∧ Q (.bl true) H
theorem op_eqO {X : Cx} (hu : X.A.units + 64 < cLine) : OpR X (compareOp .Eq) rEqO := by
  intro pins s σ H x y v u Q I rx ry h
  obtain ⟨rfl, ⟨d, hd, k⟩, q⟩ := h
  have plain : (plainD d && SeqAt.shaped d && PyData.eqv d d) = true → wpAny (model X.prog X.w) X.A (compareOp .Eq v u) (EP X pins σ Q) X.xe s := by
    intro k
    obtain ⟨k1, k3⟩ := Bool.and_eq_true_iff.mp k
    obtain ⟨k1, k2⟩ := Bool.and_eq_true_iff.mp k1
    have dp := Dx.dp (K := X.K) hd k1
    exact op_eqD hu pins s σ H x x v u Q I rx ry ⟨d, d, dp, dp, k2, k2, by rw [k3]; exact q⟩
  cases d with
  | dict ds =>
    cases hd with
    | dic e h =>
      rename_i a kvs ds
      refine op_eqV hu pins s σ H _ _ v u Q I rx ry ⟨1, by decide, .inr ⟨a, a, kvs, kvs, rfl, rfl, e, e, rfl, fun p hp => ?_⟩, q⟩
      have hl := h.length
      rw [List.length_map] at hl
      have k' : ((kvs.map fun p => keyD p.1).zip ds).length ≤ 1 := of_decide_eq_true k
      rw [List.length_zip, List.length_map, ← hl, Nat.min_self] at k'
      match kvs, h, hp, k' with
      | [p'], h, hp, _ =>
        cases hp with
        | head =>
          refine ⟨p.2, ?_, ?_⟩
          · simp [valV]
          · cases h with
            | cons h1 _ => exact (h1.flat).elim (fun f => .inl ⟨rfl, f⟩) (fun ⟨b, e⟩ => .inr (.inl ⟨b, e, e⟩))
        | tail _ h => cases h
      | _ :: _ :: r, _, _, z => exact absurd z (by simp)
  | _ => exact plain k
/-- two lists of the very same things are not unlike -/
def rNeL : R2 := fun x y H Q => ∃ a b xs, x = .ref a ∧ y = .ref b ∧ H a = some (.lst xs) ∧ H b = some (.lst xs) ∧ (∀ v ∈ xs, flatB v = true ∨ ∃ c, v = .ref c) ∧ Q (.bl false) H
theorem vals_same {A : Around} {s : Shared} : ∀ {xs : List V} {us ws : List Value}, Vals xs us → Vals xs ws → (∀ v ∈ xs, flatB v = true ∨ ∃ c, v = .ref c) → ∀ j (h1 : j < us.length) (h2 : j < ws.length), SeqAt.EqAt A s us[j] ws[j] true
  | [], _, _, r1, r2, _, j, h1, h2 => by cases r1; exact absurd h1 (Nat.not_lt_zero j)
  | x :: xs, _, _, r1, r2, f, j, h1, h2 => by
    cases r1 with
    | cons a1 b1 =>
      cases r2 with
      | cons a2 b2 =>
        cases j with
        | zero =>
          rcases f x List.mem_cons_self with e | ⟨c, e⟩
          · exact eqAt_same a1 a2 e
          · subst e
            rename_i u us w ws
            obtain rfl : u = Value.ref c := a1
            obtain rfl : w = Value.ref c := a2
            exact SeqAt.EqAt.same _
        | succ j => exact vals_same b1 b2 (fun v hv => f v (List.mem_cons_of_mem _ hv)) j (Nat.lt_of_succ_lt_succ h1) (Nat.lt_of_succ_lt_succ h2)
theorem op_neL {X : Cx} (hu : X.A.units + 64 < cLine) : OpR X (compareOp .NotEq) rNeL := by
  intro pins s σ H x y v u Q I rx ry h
  obtain ⟨a, b, xs, rfl, rfl, ha, hb, f, q⟩ := h
  obtain rfl : v = Value.ref a := rx
  obtain rfl : u = Value.ref b := ry
  obtain ⟨us, r1, p1, _⟩ := I.list (SqL.of (K := X.K) ha)
  obtain ⟨ws, r2, p2, _⟩ := I.list (SqL.of (K := X.K) hb)
  have hsz : us.toArray.size = ws.toArray.size := by
    rw [List.size_toArray, List.size_toArray, ← r1.length, ← r2.length]
  have k := SeqAt.RcNeAt.lists (A := X.A) (s := s) (e := fun _ => true) p1.isList p2.isList hsz (by omega) (fun j h1 h2 => by
    have k := vals_same (A := X.A.in1) (s := s) r1 r2 f j (by simpa using h1) (by simpa using h2)
    simpa using k)
  refine k X.prog X.w X.xe (EP X pins σ Q) ?_
  rw [show ((List.range us.toArray.size).all fun _ => true) = true from List.all_eq_true.mpr fun _ _ => rfl]
  exact ⟨.bl false, H, I, rfl, q⟩
end K11
end

section
set_option maxHeartbeats 4000000
/-! errors with one value -/
namespace K11
open PySem PySem.Spec PyProof.Rows L2
/-- an own error of a class of G stands at e, with the one field f that holds y -/
def HeldC (H : Hp) (f : Str) (y : V) (C e : Addr) : Prop := ∃ d, H e = some (exo e C (some d)) ∧ H d = some (exd d [(f, y)])
theorem HeldC.same {H H' : Hp} {f : Str} {y : V} {C e : Addr} (h : HeldC H f y C e) (s : Same H H') : HeldC H' f y C e := by
  obtain ⟨d, a, b⟩ := h
  exact ⟨d, s _ _ a, s _ _ b⟩
theorem HeldC.stands {H : Hp} {f : Str} {y : V} {C e : Addr} (h : HeldC H f y C e) : ∃ d, Stands H e C d := by
  obtain ⟨d, a, b⟩ := h
  exact ⟨some d, a, fun dd z => by cases z; exact ⟨_, b⟩⟩
theorem put_same {H : Hp} {a C d : Addr} {fs : List (Str × V)} (ha : H a = none) (hd : H d = none) : Same H (put2 H a C d fs) := fun b o e => by
  unfold put2
  rw [upd_ne (ne_of_none e ha), upd_ne (ne_of_none e hd)]
  exact e
theorem put_held {H : Hp} {a C d : Addr} {f : Str} {y : V} (ne : d ≠ a) : HeldC (put2 H a C d [(f, y)]) f y C a := ⟨d, upd_same, by unfold put2; rw [upd_ne ne]; exact upd_same⟩
/-- errors of the classes Cs, one after another -/
def HeldAll (H : Hp) (f : Str) (y : V) : List Addr → List Addr → Prop
  | [], [] => True
  | C :: Cs, e :: es => HeldC H f y C e ∧ HeldAll H f y Cs es
  | _, _ => False
theorem HeldAll.same {H H' : Hp} {f : Str} {y : V} (s : Same H H') : ∀ {Cs es : List Addr}, HeldAll H f y Cs es → HeldAll H' f y Cs es
  | [], [], _ => True.intro
  | _ :: _, _ :: _, h => ⟨h.1.same s, HeldAll.same s h.2⟩
theorem HeldAll.len {H : Hp} {f : Str} {y : V} : ∀ {Cs es : List Addr}, HeldAll H f y Cs es → es.length = Cs.length
  | [], [], _ => rfl
  | _ :: _, _ :: _, h => by rw [List.length_cons, List.length_cons, HeldAll.len h.2]
theorem HeldAll.app {H : Hp} {f : Str} {y : V} : ∀ {Cs es Ds fs : List Addr}, HeldAll H f y Cs es → HeldAll H f y Ds fs → HeldAll H f y (Cs ++ Ds) (es ++ fs)
  | [], [], _, _, _, k => k
  | _ :: _, _ :: _, _, _, h, k => ⟨h.1, HeldAll.app h.2 k⟩
theorem HeldAll.mem {H : Hp} {f : Str} {y : V} : ∀ {Cs es : List Addr}, HeldAll H f y Cs es → ∀ e ∈ es, ∃ C ∈ Cs, HeldC H f y C e
  | [], [], _, _, z => by cases z
  | C :: _, e' :: _, h, e, z => by
    cases z with
    | head => exact ⟨C, List.mem_cons_self .., h.1⟩
    | tail _ z => obtain ⟨D, m, k⟩ := HeldAll.mem h.2 e z; exact ⟨D, List.mem_cons_of_mem _ m, k⟩
/-- the arguments C(thing), D(thing), .. -/
def tVf (f : Str) (C : Addr) (ta : TA) : TE := fun σ H Q => ta σ H fun vs H1 => ∃ y, vs = [y] ∧ ∀ a d, H1 a = none → H1 d = none → d ≠ a → Q (.ref a) (put2 H1 a C d [(f, y)])
def tMkF (f : Str) : List Addr → TA
  | [] => tNil
  | C :: Cs => tCons (tVf f C (tCons (tVar 0) tNil)) (tMkF f Cs)
theorem tMkF_ok {f : Str} {y : V} : ∀ (Cs : List Addr) {σ : L2.St} {H : Hp} {Q : List V → Hp → Prop}, σ[0]? = some (some y) → (∀ (es : List Addr) (H' : Hp), Same H H' → HeldAll H' f y Cs es → Q (es.map V.ref) H') → tMkF f Cs σ H Q
  | [], _, _, _, _, q => q [] _ (fun _ _ e => e) True.intro
  | C :: Cs, σ, H, Q, h, q => by
    refine ⟨y, h, y, rfl, fun a d ha hd ne => tMkF_ok Cs h fun es H' s k => q (a :: es) H' (Same.trans (put_same ha hd) s) ⟨(put_held ne).same s, k⟩⟩
theorem mk_first {f : Str} {Cs : List Addr} {y : V} {σ : L2.St} {H : Hp} {Q : VK} (h0 : σ[0]? = some (some y)) (hsz : Cs.length ≤ 1000) (q : ∀ (es : List Addr) (m : Addr) (H' : Hp), Same H H' → H' m = some (.lst (es.map V.ref)) → HeldAll H' f y Cs es → Q (.ref m) H') : tLst (tMkF f Cs) σ H Q :=
  tMkF_ok Cs h0 fun es H1 s1 k1 => ⟨by rw [List.length_map, k1.len, sizeLine_eq]; omega, fun l hl => q es l _ (Same.trans s1 (Same.new hl)) upd_same (k1.same (Same.new hl))⟩
theorem mk_more {f : Str} {Cs Ds es : List Addr} {m : Addr} {y : V} {σ : L2.St} {H : Hp} {Q : VK} (h0 : σ[0]? = some (some y)) (h1 : σ[1]? = some (some (.ref m))) (hm : H m = some (.lst (es.map V.ref))) (k : HeldAll H f y Cs es) (hsz : Cs.length + Ds.length ≤ 1000)
    (q : ∀ (es' : List Addr) (m' : Addr) (H' : Hp), Same H H' → H' m' = some (.lst (es'.map V.ref)) → HeldAll H' f y (Cs ++ Ds) es' → Q (.ref m') H') : tOp rCat (tVar 1) (tLst (tMkF f Ds)) σ H Q := by
  refine ⟨_, h1, mk_first h0 (by omega) fun es2 l2 H2 s2 e2 k2 => ⟨m, l2, _, _, rfl, rfl, s2 _ _ hm, e2, ?_, fun n hn => ?_⟩⟩
  · rw [List.length_map, List.length_map, k.len, k2.len, sizeLine_eq]; omega
  · exact q (es ++ es2) n _ (Same.trans s2 (Same.new hn)) (by rw [upd_same, List.map_append]) (HeldAll.app ((k.same s2).same (Same.new hn)) (k2.same (Same.new hn)))
theorem st_first {f : Str} {Cs : List Addr} {y : V} {R : TS} {w} {σ : L2.St} {H : Hp} (h0 : σ[0]? = some (some y)) (hsz : Cs.length ≤ 1000) (q : ∀ (es : List Addr) (m : Addr) (H' : Hp), Same H H' → H' m = some (.lst (es.map V.ref)) → HeldAll H' f y Cs es → R w (σ.set 1 (some (.ref m))) H') : tSeq (tAsg (tLst (tMkF f Cs)) (gName 1)) R w σ H := mk_first (Q := fun v H1 => R w (σ.set 1 (some v)) H1) h0 hsz q
theorem st_more {f : Str} {Cs Ds es : List Addr} {m : Addr} {y : V} {R : TS} {w} {σ : L2.St} {H : Hp} (h0 : σ[0]? = some (some y)) (h1 : σ[1]? = some (some (.ref m))) (hm : H m = some (.lst (es.map V.ref))) (k : HeldAll H f y Cs es) (hsz : Cs.length + Ds.length ≤ 1000)
    (q : ∀ (es' : List Addr) (m' : Addr) (H' : Hp), Same H H' → H' m' = some (.lst (es'.map V.ref)) → HeldAll H' f y (Cs ++ Ds) es' → R w (σ.set 1 (some (.ref m'))) H') : tSeq (tAsg (tOp rCat (tVar 1) (tLst (tMkF f Ds))) (gName 1)) R w σ H := mk_more (Q := fun v H1 => R w (σ.set 1 (some v)) H1) h0 h1 hm k hsz q
section
variable {X : Cx} {p pos : Pos} {e a b : Expr} {es : List Expr} {t : TA} {ta tb : TE}
theorem pe_isH (K : PySem.W.Frag) (hK : X.K = K) (hg : Gl X "isinstance") (hm : X.mg "isinstance" = none) (ha : PA X (e :: es) t) (he : starEach (e :: es) X.env = (false, eval e X.env) :: starEach es X.env := by rfl) (hpl : (backTo pos (starEach es X.env)).any (·.1) = false := by rfl) : PE X (.Call (.Name "isinstance" p) (e :: es) [] pos) (tCB (rIsH K) t) :=
  hK ▸ pe_callB call_isH hg hm (by decide +kernel) ha (he := he) (hpl := hpl)
theorem pe_isHT (K : PySem.W.Frag) (hK : X.K = K) (hg : Gl X "isinstance") (hm : X.mg "isinstance" = none) (ha : PA X (e :: es) t) (he : starEach (e :: es) X.env = (false, eval e X.env) :: starEach es X.env := by rfl) (hpl : (backTo pos (starEach es X.env)).any (·.1) = false := by rfl) : PE X (.Call (.Name "isinstance" p) (e :: es) [] pos) (tCB (rIsHT K) t) :=
  hK ▸ pe_callB call_isHT hg hm (by decide +kernel) ha (he := he) (hpl := hpl)
theorem pe_fldK (K : PySem.W.Frag) (hK : X.K = K) {n : Str} (ha : PE X e ta) (hb : attributeBase e n X.env (eval e X.env) = eval e X.env := by rfl) : PE X (.Attribute e n pos) (tFld K n ta) := hK ▸ pe_fldX ha hb
theorem pe_eqO (hu : X.A.units + 64 < cLine) (ha : PE X a ta) (hb : PE X b tb) (hm : behindInMarks .Eq b = false) : PE X (.Compare a [.Eq] [b] pos) (tOp rEqO ta tb) := pe_cmpR (op_eqO hu) ha hb hm
theorem pt_neL (hu : X.A.units + 64 < cLine) (ha : PE X a ta) (hb : PE X b tb) (hm : behindInMarks .NotEq b = false) : PE X (.Compare a [.NotEq] [b] pos) (tOp rNeL ta tb) := pe_cmpR (op_neL hu) ha hb hm
end
/-- a comprehension over a list of which each thing gives the same bool -/
theorem lc_bools {K : PySem.W.Frag} {a : Addr} {xs : List V} {j : Nat} {te : TE} {vs : List Nat} {σ : L2.St} {H1 : Hp} {D : Addr} {Qd : Hp → Prop} (b : Bool) (hn : H1 D = none) (hl : H1 a = some (.lst xs)) (hsz : xs.length ≤ 1000)
    (hw : ∀ x, wipe ((wipe σ vs).set j (some x)) vs = wipe σ vs) (hstep : ∀ x ∈ xs, ∀ H', Same H1 H' → ∀ Q : VK, (∀ H2, Same H' H2 → Q (.bl b) H2) → te ((wipe σ vs).set j (some x)) H' Q)
    (hend : ∀ H', Same H1 H' → H' D = some (.lst ((List.replicate xs.length b).map V.bl)) → Qd H') :
    ∃ W : Nat → Nat → Hp → Prop, (∃ m, W 0 m (upd H1 D (.lst []))) ∧ ∀ i m H, W i m H →
      ((Itl K a).stop i H ∧ Qd H) ∨ ((Itl K a).go i H ∧ ∃ Nx : Hp → Prop, (∀ H', Nx H' → ∃ m', m' < m ∧ W (i + 1) m' H') ∧ ∀ x H', (Itl K a).yld i H x H' → gName j x (wipe σ vs) H' fun σ2 H2 => wipe σ2 vs = wipe σ vs ∧ tYes σ2 H2 fun b H3 =>
        if b = true then te σ2 H3 fun y H4 => ∃ acc, H4 D = some (.lst acc) ∧ acc.length < sizeLine ∧ Nx (upd H4 D (.lst (acc ++ [y]))) else Nx H3) := by
  refine lc_it (w := walk_list (K := K) (a := a) (xs := xs)) (g := gName j) (tt := tYes) (fun i H' => i ≤ xs.length ∧ Same H1 H' ∧ H' D = some (.lst ((List.replicate i b).map V.bl))) ⟨Nat.zero_le _, Same.new hn, upd_same⟩ (fun i H hi hP => SqL.of (hP.2.1 _ _ hl)) (fun i x H' H2 hi hP hy => ?_) (fun H' hP => hend H' hP.2.1 hP.2.2)
  obtain ⟨hi', s, eD⟩ := hP
  obtain ⟨rfl, hx⟩ := hy
  refine ⟨hw x, ?_⟩
  show te _ _ _
  refine hstep x (List.mem_of_getElem? hx) _ s _ fun H3 s3 => ⟨_, s3 _ _ eD, ?_, hi, ?_, ?_⟩
  · rw [List.length_map, List.length_replicate, sizeLine_eq]; omega
  · intro c o e
    rw [upd_ne (ne_of_none e hn)]
    exact s3 _ _ (s _ _ e)
  · rw [upd_same, List.replicate_succ', List.map_append]; rfl
structure VC1 (K : PySem.W.Frag) (mg : Str → Option Value) (ad : Str → Addr) (x : Str) (C fI : Addr) : Prop where
  T : XB K C [.type "ValueError", .type "Exception", .type "BaseException", .type "object"] "ValueError.__new__"
  J : XI K C fI
  F : XF_value K C fI
  G : mg x = some (.ref C)
  bar : PySem.W.kitOne K (.ref C) (.ref (ad "BarredError")) = some true
  far : PySem.W.kitAny K (.ref C) [.ref (ad "MissingError"), .ref (ad "StateError"), .ref (ad "LimitError"), .type "KeyError"] = some false
structure ValC (K : PySem.W.Frag) (mg : Str → Option Value) (ad : Str → Addr) : Prop where
  c0 : VC1 K mg ad "InvalidSigns" (ad "InvalidSigns") (ad "InvalidSigns.__init__")
  c1 : VC1 K mg ad "InvalidMedium" (ad "InvalidMedium") (ad "InvalidMedium.__init__")
  c2 : VC1 K mg ad "InvalidState" (ad "InvalidState") (ad "InvalidState.__init__")
  c3 : VC1 K mg ad "InvalidSign" (ad "InvalidSign") (ad "InvalidSign.__init__")
  c4 : VC1 K mg ad "InvalidRow" (ad "InvalidRow") (ad "InvalidRow.__init__")
  c5 : VC1 K mg ad "InvalidCount" (ad "InvalidCount") (ad "InvalidCount.__init__")
  c6 : VC1 K mg ad "InvalidNumber" (ad "InvalidNumber") (ad "InvalidNumber.__init__")
  c7 : VC1 K mg ad "InvalidRate" (ad "InvalidRate") (ad "InvalidRate.__init__")
  c8 : VC1 K mg ad "InvalidPaper" (ad "InvalidPaper") (ad "InvalidPaper.__init__")
  c9 : VC1 K mg ad "InvalidCoder" (ad "InvalidCoder") (ad "InvalidCoder.__init__")
  c10 : VC1 K mg ad "InvalidWord" (ad "InvalidWord") (ad "InvalidWord.__init__")
  c11 : VC1 K mg ad "InvalidBlock" (ad "InvalidBlock") (ad "InvalidBlock.__init__")
  c12 : VC1 K mg ad "InvalidChoice" (ad "InvalidChoice") (ad "InvalidChoice.__init__")
  c13 : VC1 K mg ad "InvalidMark" (ad "InvalidMark") (ad "InvalidMark.__init__")
  c14 : VC1 K mg ad "InvalidName" (ad "InvalidName") (ad "InvalidName.__init__")
  c15 : VC1 K mg ad "InvalidThing" (ad "InvalidThing") (ad "InvalidThing.__init__")
  c16 : VC1 K mg ad "InvalidClaim" (ad "InvalidClaim") (ad "InvalidClaim.__init__")
  c17 : VC1 K mg ad "InvalidCommand" (ad "InvalidCommand") (ad "InvalidCommand.__init__")
  gB : mg "BarredError" = some (.ref (ad "BarredError"))
  gM : mg "MissingError" = some (.ref (ad "MissingError"))
  gS : mg "StateError" = some (.ref (ad "StateError"))
  gL : mg "LimitError" = some (.ref (ad "LimitError"))
  n1 : PySem.W.kitOne K (.ref (ad "InvalidSigns")) (.ref (ad "InvalidSign")) = some false
  n2 : PySem.W.kitOne K (.ref (ad "InvalidSign")) (.ref (ad "InvalidSigns")) = some false
theorem at3 {α : Type} {a b c d : α} {r : List α} : atI (a :: b :: c :: d :: r) 3 = some d := by
  unfold atI ixN
  rw [if_pos (by decide), if_pos (by simp only [List.length_cons]; omega)]
  rfl
theorem at0 {α : Type} {a : α} {r : List α} : atI (a :: r) 0 = some a := by
  unfold atI ixN
  rw [if_pos (by decide), if_pos (by simp only [List.length_cons]; omega)]
  rfl
def spOddB : Sp := fun vs H Q _ => ∃ (v : V) (d : PyData), vs = [v] ∧ Dx H v d ∧ kindB d = true ∧ ∀ H', Same H H' → Q (.bl true) H'
section
variable {P : Program} {w : World} {K : PySem.W.Frag} {mg : Str → Option Value} {base : Heap} {ad : Str → Addr} {fd : Str → FuncData}
theorem scValuesRight : FnScope ["_law_thing", "_law_made", "_law_e"] ["_law_thing"] (defScope sValuesRight) := ⟨rfl, rfl, rfl, by decide +kernel, rfl, by decide +kernel, by decide +kernel⟩
theorem ok_values (X : Tx K mg ad fd) (VC : ValC K mg ad) : FnOk P w K mg base CX0 2 (ad "_law_values_right") (fd "_law_values_right") ["_law_thing"] spOddB := by
  refine X.F__law_values_right.ok scValuesRight (fun vs H Q E h => ?_) (fun cdv A outer s H vs Q E hr h => ?_)
  · obtain ⟨v, d, rfl, _⟩ := h
    rfl
  · obtain ⟨v, d, rfl, hd, hk, q⟩ := h
    have hu64 := hr.units
    refine ⟨_, (pss_cons (ps_set (i := 1) scValuesRight.nd rfl (.inl rfl) (by exact (pe_lst (pa_cons (pe_value VC.c0.T bs_value VC.c0.J VC.c0.F hr (by rfl) VC.c0.G (pa_cons (pv 0) pa_nil)) (pa_cons (pe_valueK VC.c1.T bs_value VC.c1.J VC.c1.F hr (by rfl) VC.c1.G (by exact (pk_cons (pv 0) pk_nil))) (pa_cons (pe_value VC.c2.T bs_value VC.c2.J VC.c2.F hr (by rfl) VC.c2.G (pa_cons (pv 0) pa_nil)) (pa_cons (pe_valueK VC.c3.T bs_value VC.c3.J VC.c3.F hr (by rfl) VC.c3.G (by exact (pk_cons (pv 0) pk_nil))) pa_nil)))))))
  (pss_cons (ps_set (i := 1) scValuesRight.nd rfl (.inl rfl) (by exact (pe_op op_cat (pv 1) (pe_lst (pa_cons (pe_value VC.c4.T bs_value VC.c4.J VC.c4.F hr (by rfl) VC.c4.G (pa_cons (pv 0) pa_nil)) (pa_cons (pe_valueK VC.c5.T bs_value VC.c5.J VC.c5.F hr (by rfl) VC.c5.G (by exact (pk_cons (pv 0) pk_nil))) (pa_cons (pe_value VC.c6.T bs_value VC.c6.J VC.c6.F hr (by rfl) VC.c6.G (pa_cons (pv 0) pa_nil)) (pa_cons (pe_valueK VC.c7.T bs_value VC.c7.J VC.c7.F hr (by rfl) VC.c7.G (by exact (pk_cons (pv 0) pk_nil))) pa_nil))))))))
  (pss_cons (ps_set (i := 1) scValuesRight.nd rfl (.inl rfl) (by exact (pe_op op_cat (pv 1) (pe_lst (pa_cons (pe_value VC.c8.T bs_value VC.c8.J VC.c8.F hr (by rfl) VC.c8.G (pa_cons (pv 0) pa_nil)) (pa_cons (pe_valueK VC.c9.T bs_value VC.c9.J VC.c9.F hr (by rfl) VC.c9.G (by exact (pk_cons (pv 0) pk_nil))) (pa_cons (pe_value VC.c10.T bs_value VC.c10.J VC.c10.F hr (by rfl) VC.c10.G (pa_cons (pv 0) pa_nil)) (pa_cons (pe_valueK VC.c11.T bs_value VC.c11.J VC.c11.F hr (by rfl) VC.c11.G (by exact (pk_cons (pv 0) pk_nil))) pa_nil))))))))
  (pss_cons (ps_set (i := 1) scValuesRight.nd rfl (.inl rfl) (by exact (pe_op op_cat (pv 1) (pe_lst (pa_cons (pe_value VC.c12.T bs_value VC.c12.J VC.c12.F hr (by rfl) VC.c12.G (pa_cons (pv 0) pa_nil)) (pa_cons (pe_valueK VC.c13.T bs_value VC.c13.J VC.c13.F hr (by rfl) VC.c13.G (by exact (pk_cons (pv 0) pk_nil))) (pa_cons (pe_value VC.c14.T bs_value VC.c14.J VC.c14.F hr (by rfl) VC.c14.G (pa_cons (pv 0) pa_nil)) (pa_cons (pe_valueK VC.c15.T bs_value VC.c15.J VC.c15.F hr (by rfl) VC.c15.G (by exact (pk_cons (pv 0) pk_nil))) pa_nil))))))))
  (pss_cons (ps_set (i := 1) scValuesRight.nd rfl (.inl rfl) (by exact (pe_op op_cat (pv 1) (pe_lst (pa_cons (pe_value VC.c16.T bs_value VC.c16.J VC.c16.F hr (by rfl) VC.c16.G (pa_cons (pv 0) pa_nil)) (pa_cons (pe_valueK VC.c17.T bs_value VC.c17.J VC.c17.F hr (by rfl) VC.c17.G (by exact (pk_cons (pv 0) pk_nil))) pa_nil))))))
  (pss_cons (ps_if (pt_not (pt_val (pe_callB (cr_all rfl) (by rfl) X.m_all (by decide +kernel) (pa_cons (pe_lc (own := [("_law_e", 2)]) (g := gName 2) rfl scValuesRight.nd (pi_list (pv 1)) (blkOk_by (own := [("_law_e", 2)]) (N := ["_law_thing", "_law_made", "_law_e"]) (sc := defScope sValuesRight) (by decide +kernel)) (fun _ _ _ _ _ => pg_name (i := 2) scValuesRight.nd rfl (Or.inl rfl)) (fun _ _ _ _ _ => pts_nil) (fun _ _ _ _ _ => (pe_and (pe_isH K rfl (by rfl) X.m_isinstance (pa_cons (pv 2) (pa_cons (pe_glob (v := .ref (ad "BarredError")) (by rfl) VC.gB rfl) pa_nil))) (pe_one (pe_eqO hu64 (pe_fldK K rfl (pv 2)) (pv 0) (nomark _)))))) pa_nil))))
  (pss_one (ps_ret (by exact pe_bl)))
  pss_nil)
  (pss_cons (ps_if (pt_val (pe_callB (cr_any rfl) (by rfl) X.m_any (by decide +kernel) (pa_cons (pe_lc (own := [("_law_e", 2)]) (g := gName 2) rfl scValuesRight.nd (pi_list (pv 1)) (blkOk_by (own := [("_law_e", 2)]) (N := ["_law_thing", "_law_made", "_law_e"]) (sc := defScope sValuesRight) (by decide +kernel)) (fun _ _ _ _ _ => pg_name (i := 2) scValuesRight.nd rfl (Or.inl rfl)) (fun _ _ _ _ _ => pts_nil) (fun _ _ _ _ _ => (pe_isHT K rfl (by rfl) X.m_isinstance (pa_cons (pv 2) (pa_cons (pe_tup (pa_cons (pe_glob (v := .ref (ad "MissingError")) (by rfl) VC.gM rfl) (pa_cons (pe_glob (v := .ref (ad "StateError")) (by rfl) VC.gS rfl) (pa_cons (pe_glob (v := .ref (ad "LimitError")) (by rfl) VC.gL rfl) (pa_cons (pe_bltn (v := .ty "KeyError") (by rfl) X.m_KeyError (by decide +kernel) rfl) pa_nil))))) pa_nil))))) pa_nil)))
  (pss_one (ps_ret (by exact pe_bl)))
  pss_nil)
  (pss_one (ps_ret (by exact (pe_and (pe_not (pe_isH K rfl (by rfl) X.m_isinstance (pa_cons (pe_ix ix_list (pv 1) pe_int (fun _ _ => rfl)) (pa_cons (pe_glob (v := .ref (ad "InvalidSign")) (by rfl) VC.c3.G rfl) pa_nil)))) (pe_one (pe_not (pe_isH K rfl (by rfl) X.m_isinstance (pa_cons (pe_ix ix_list (pv 1) pe_int (fun _ _ => rfl)) (pa_cons (pe_glob (v := .ref (ad "InvalidSigns")) (by rfl) VC.c0.G rfl) pa_nil)))))))))))))))), ?_⟩
    refine st_first (f := "value") (Cs := [ad "InvalidSigns", ad "InvalidMedium", ad "InvalidState", ad "InvalidSign"]) (y := v) (by rfl) (by show 4 ≤ 1000; decide) fun es1 m1 H1 s1 e1 k1 => ?_
    refine st_more (f := "value") (Ds := [ad "InvalidRow", ad "InvalidCount", ad "InvalidNumber", ad "InvalidRate"]) (by rfl) (by rfl) e1 k1 (by show 4 + 4 ≤ 1000; decide) fun es2 m2 H2 s2 e2 k2 => ?_
    refine st_more (f := "value") (Ds := [ad "InvalidPaper", ad "InvalidCoder", ad "InvalidWord", ad "InvalidBlock"]) (by rfl) (by rfl) e2 k2 (by show 8 + 4 ≤ 1000; decide) fun es3 m3 H3 s3 e3 k3 => ?_
    refine st_more (f := "value") (Ds := [ad "InvalidChoice", ad "InvalidMark", ad "InvalidName", ad "InvalidThing"]) (by rfl) (by rfl) e3 k3 (by show 12 + 4 ≤ 1000; decide) fun es4 m4 H4 s4 e4 k4 => ?_
    refine st_more (f := "value") (Ds := [ad "InvalidClaim", ad "InvalidCommand"]) (by rfl) (by rfl) e4 k4 (by show 16 + 2 ≤ 1000; decide) fun es m H5 s5 e5 k5 => ?_
    have s := Same.trans (Same.trans (Same.trans (Same.trans s1 s2) s3) s4) s5
    have hlen : (es.map V.ref).length ≤ 1000 := by rw [List.length_map, k5.len]; show 18 ≤ 1000; decide
    -- every one of them
    have one : ∀ x ∈ es.map V.ref, ∃ e C d, x = .ref e ∧ HeldC H5 "value" v C e ∧ Stands H5 e C d ∧ EC K C ∧ PySem.W.findIn K (.ref C) "value" = some none ∧ PySem.W.kitOne K (.ref C) (.ref (ad "BarredError")) = some true ∧ PySem.W.kitAny K (.ref C) [.ref (ad "MissingError"), .ref (ad "StateError"), .ref (ad "LimitError"), .type "KeyError"] = some false := by
      intro x hx
      obtain ⟨e, he, rfl⟩ := List.mem_map.mp hx
      obtain ⟨C, hC, hc⟩ := k5.mem e he
      obtain ⟨dd, hs⟩ := hc.stands
      have good : ∀ C ∈ [ad "InvalidSigns", ad "InvalidMedium", ad "InvalidState", ad "InvalidSign"] ++ [ad "InvalidRow", ad "InvalidCount", ad "InvalidNumber", ad "InvalidRate"] ++ [ad "InvalidPaper", ad "InvalidCoder", ad "InvalidWord", ad "InvalidBlock"] ++ [ad "InvalidChoice", ad "InvalidMark", ad "InvalidName", ad "InvalidThing"] ++ [ad "InvalidClaim", ad "InvalidCommand"], EC K C ∧ PySem.W.findIn K (.ref C) "value" = some none ∧ PySem.W.kitOne K (.ref C) (.ref (ad "BarredError")) = some true ∧ PySem.W.kitAny K (.ref C) [.ref (ad "MissingError"), .ref (ad "StateError"), .ref (ad "LimitError"), .type "KeyError"] = some false := by
        intro C hC
        simp only [List.cons_append, List.nil_append, List.mem_cons, List.not_mem_nil, or_false] at hC
        rcases hC with rfl | rfl | rfl | rfl | rfl | rfl | rfl | rfl | rfl | rfl | rfl | rfl | rfl | rfl | rfl | rfl | rfl | rfl
        · exact ⟨VC.c0.T.ec, VC.c0.F.no, VC.c0.bar, VC.c0.far⟩
        · exact ⟨VC.c1.T.ec, VC.c1.F.no, VC.c1.bar, VC.c1.far⟩
        · exact ⟨VC.c2.T.ec, VC.c2.F.no, VC.c2.bar, VC.c2.far⟩
        · exact ⟨VC.c3.T.ec, VC.c3.F.no, VC.c3.bar, VC.c3.far⟩
        · exact ⟨VC.c4.T.ec, VC.c4.F.no, VC.c4.bar, VC.c4.far⟩
        · exact ⟨VC.c5.T.ec, VC.c5.F.no, VC.c5.bar, VC.c5.far⟩
        · exact ⟨VC.c6.T.ec, VC.c6.F.no, VC.c6.bar, VC.c6.far⟩
        · exact ⟨VC.c7.T.ec, VC.c7.F.no, VC.c7.bar, VC.c7.far⟩
        · exact ⟨VC.c8.T.ec, VC.c8.F.no, VC.c8.bar, VC.c8.far⟩
        · exact ⟨VC.c9.T.ec, VC.c9.F.no, VC.c9.bar, VC.c9.far⟩
        · exact ⟨VC.c10.T.ec, VC.c10.F.no, VC.c10.bar, VC.c10.far⟩
        · exact ⟨VC.c11.T.ec, VC.c11.F.no, VC.c11.bar, VC.c11.far⟩
        · exact ⟨VC.c12.T.ec, VC.c12.F.no, VC.c12.bar, VC.c12.far⟩
        · exact ⟨VC.c13.T.ec, VC.c13.F.no, VC.c13.bar, VC.c13.far⟩
        · exact ⟨VC.c14.T.ec, VC.c14.F.no, VC.c14.bar, VC.c14.far⟩
        · exact ⟨VC.c15.T.ec, VC.c15.F.no, VC.c15.bar, VC.c15.far⟩
        · exact ⟨VC.c16.T.ec, VC.c16.F.no, VC.c16.bar, VC.c16.far⟩
        · exact ⟨VC.c17.T.ec, VC.c17.F.no, VC.c17.bar, VC.c17.far⟩
      obtain ⟨g1, g2, g3, g4⟩ := good C hC
      exact ⟨e, C, dd, rfl, hc, hs, g1, g2, g3, g4⟩
    refine ⟨.ref m, rfl, m, rfl, ⟨_, SqL.of e5⟩, fun D hD => ?_⟩
    refine lc_bools true hD e5 hlen (fun _ => rfl) (fun x hx H' s' Q q => ?_) (fun H' s6 eD => ?_)
    · obtain ⟨e, C, dd, rfl, hc, hs, g1, g2, g3, g4⟩ := one x hx
      obtain ⟨d2, ha, hb⟩ := hc
      exact ⟨.ref e, rfl, e, C, dd, .ref (ad "BarredError"), _, true, rfl, hs.same s', g1, .own _, g3, true, rfl, iteT ⟨.ref e, rfl, e, C, d2, _, v, rfl, s' _ _ ha, s' _ _ hb, g1, g2, by simp [List.lookup], v, rfl, rfl, ⟨d, hd.same (Same.trans s s'), hk⟩, q _ (fun _ _ z => z)⟩⟩
    · have ea : (List.replicate (es.map V.ref).length true).all id = true := by simp
      refine ⟨D, _, rfl, SqL.of eD, _, rfl, ?_⟩
      rw [ea]
      refine iteF ⟨.ref m, rfl, m, rfl, ⟨_, SqL.of (s6 _ _ e5)⟩, fun D2 hD2 => ?_⟩
      refine lc_bools false hD2 (s6 _ _ e5) hlen (fun _ => rfl) (fun x hx H2 s' Q q => ?_) (fun H2 s7 eD2 => ?_)
      · obtain ⟨e, C, dd, rfl, hc, hs, g1, g2, g3, g4⟩ := one x hx
        exact ⟨.ref e, rfl, (by show 4 ≤ sizeLine; decide), fun t ht => ⟨e, C, dd, t, _, _, false, rfl, ((hs.same s6).same s').same (Same.new ht), g1, upd_same, .cons (.own _) (.cons (.own _) (.cons (.own _) (.cons (.ty _) .nil))), g4, q _ (Same.new ht)⟩⟩
      · have ea : (List.replicate (es.map V.ref).length false).any id = false := by simp
        refine ⟨D2, _, rfl, SqL.of eD2, _, rfl, ?_⟩
        rw [ea]
        obtain ⟨e0, e1, e2, e3, er, rfl, c0, c3⟩ : ∃ e0 e1 e2 e3 er, es = e0 :: e1 :: e2 :: e3 :: er ∧ HeldC H5 "value" v (ad "InvalidSigns") e0 ∧ HeldC H5 "value" v (ad "InvalidSign") e3 := by
          match es, k5 with
          | e0 :: e1 :: e2 :: e3 :: er, ⟨h0, _, _, h3, _⟩ => exact ⟨e0, e1, e2, e3, er, rfl, h0, h3⟩
        have s67 := Same.trans s6 s7
        obtain ⟨d0, st0⟩ := (c0.same s67).stands
        obtain ⟨d3, st3⟩ := (c3.same s67).stands
        have a3 : atI ((e0 :: e1 :: e2 :: e3 :: er).map V.ref) 3 = some (.ref e3) := at3
        refine iteF ⟨.ref m, rfl, m, _, 0, .ref e0, rfl, rfl, SqL.of (s67 _ _ e5), at0, e0, _, d0, .ref _, _, false, rfl, st0, VC.c0.T.ec, .own _, VC.n1, false, rfl, true, rfl, iteT ⟨.ref m, rfl, m, _, 3, .ref e3, rfl, rfl, SqL.of (s67 _ _ e5), a3, e3, _, d3, .ref _, _, false, rfl, st3, VC.c3.T.ec, .own _, VC.n2, false, rfl, q _ (Same.trans s s67)⟩⟩
end
end K11
end

section
set_option maxHeartbeats 4000000
/-! errors with a position, and their family -/
namespace K11
open PySem PySem.Spec PyProof.Rows L2
structure PC1 (K : PySem.W.Frag) (mg : Str → Option Value) (ad : Str → Addr) (x : Str) (C fI : Addr) : Prop where
  T : XB K C [.type "ValueError", .type "Exception", .type "BaseException", .type "object"] "ValueError.__new__"
  J : XI K C fI
  G : mg x = some (.ref C)
  bar : PySem.W.kitOne K (.ref C) (.ref (ad "BarredError")) = some true
  far : PySem.W.kitAny K (.ref C) [.ref (ad "MissingError"), .ref (ad "StateError"), .ref (ad "LimitError")] = some false
  val : PySem.W.kitOne K (.ref C) (.type "ValueError") = some true
structure PlaC (K : PySem.W.Frag) (mg : Str → Option Value) (ad : Str → Addr) : Prop where
  p0 : PC1 K mg ad "InvalidTable" (ad "InvalidTable") (ad "InvalidTable.__init__")
  f0 : XF_position K (ad "InvalidTable") (ad "InvalidTable.__init__")
  p1 : PC1 K mg ad "InvalidWords" (ad "InvalidWords") (ad "InvalidWords.__init__")
  f1 : XF_position K (ad "InvalidWords") (ad "InvalidWords.__init__")
  p2 : PC1 K mg ad "InvalidSteps" (ad "InvalidSteps") (ad "InvalidSteps.__init__")
  f2 : XF_position K (ad "InvalidSteps") (ad "InvalidSteps.__init__")
  p3 : PC1 K mg ad "InvalidNumbers" (ad "InvalidNumbers") (ad "InvalidNumbers.__init__")
  f3 : XF_position K (ad "InvalidNumbers") (ad "InvalidNumbers.__init__")
  p4 : PC1 K mg ad "InvalidText" (ad "InvalidText") (ad "InvalidText.__init__")
  f4 : XF_position K (ad "InvalidText") (ad "InvalidText.__init__")
  p5 : PC1 K mg ad "InvalidSharing" (ad "InvalidSharing") (ad "InvalidSharing.__init__")
  f5 : XF_position K (ad "InvalidSharing") (ad "InvalidSharing.__init__")
  p6 : PC1 K mg ad "InvalidBits" (ad "InvalidBits") (ad "InvalidBits.__init__")
  f6 : XF_position K (ad "InvalidBits") (ad "InvalidBits.__init__")
  b : PC1 K mg ad "InvalidBounds" (ad "InvalidBounds") (ad "InvalidBounds.__init__")
  fb : XF_low_high K (ad "InvalidBounds") (ad "InvalidBounds.__init__")
  l : PC1 K mg ad "InvalidLimits" (ad "InvalidLimits") (ad "InvalidLimits.__init__")
  fl : XF_sign K (ad "InvalidLimits") (ad "InvalidLimits.__init__")
  dd : PC1 K mg ad "InvalidDescription" (ad "InvalidDescription") (ad "InvalidDescription.__init__")
  fd : XF_line K (ad "InvalidDescription") (ad "InvalidDescription.__init__")
  gM : mg "MissingError" = some (.ref (ad "MissingError"))
  gS : mg "StateError" = some (.ref (ad "StateError"))
  gL : mg "LimitError" = some (.ref (ad "LimitError"))
  gB : mg "BarredError" = some (.ref (ad "BarredError"))
/-- an own error of the family stands behind x -/
def Fam (K : PySem.W.Frag) (G : Addr → Prop) (H : Hp) (x : V) : Prop := ∃ e C d, x = .ref e ∧ Stands H e C d ∧ EC K C ∧ G C
theorem Fam.same {K : PySem.W.Frag} {G : Addr → Prop} {H H' : Hp} {x : V} (h : Fam K G H x) (s : Same H H') : Fam K G H' x := by
  obtain ⟨e, C, d, rfl, a, b, c⟩ := h
  exact ⟨e, C, d, rfl, a.same s, b, c⟩
theorem put_stands {H : Hp} {a C d : Addr} {fs : List (Str × V)} (ne : d ≠ a) : Stands (put2 H a C d fs) a C (some d) := ⟨upd_same, fun dd z => by cases z; exact ⟨fs, by unfold put2; rw [upd_ne ne]; exact upd_same⟩⟩
theorem put_at {H : Hp} {a C d : Addr} {fs : List (Str × V)} (ha : H a = none) (hd : H d = none) (ne : d ≠ a) : put2 H a C d fs a = some (exo a C (some d)) ∧ put2 H a C d fs d = some (exd d fs) := ⟨upd_same, by unfold put2; rw [upd_ne ne]; exact upd_same⟩
section
variable {P : Program} {w : World} {K : PySem.W.Frag} {mg : Str → Option Value} {base : Heap} {ad : Str → Addr} {fd : Str → FuncData}
theorem scPlacesRight : FnScope ["_law_thing", "_law_made", "_law_bounds", "_law_limits", "_law_told_here", "_law_family", "_law_e"] ["_law_thing"] (defScope sPlacesRight) := ⟨rfl, rfl, rfl, by decide +kernel, rfl, by decide +kernel, by decide +kernel⟩
theorem ok_places (X : Tx K mg ad fd) (PC : PlaC K mg ad) : FnOk P w K mg base CX0 2 (ad "_law_places_right") (fd "_law_places_right") ["_law_thing"] spOddB := by
  refine X.F__law_places_right.ok scPlacesRight (fun vs H Q E h => ?_) (fun cdv A outer s H vs Q E hr h => ?_)
  · obtain ⟨v, d, rfl, _⟩ := h
    rfl
  · obtain ⟨v, d, rfl, hd, hk, q⟩ := h
    have hu64 := hr.units
    refine ⟨_, (pss_cons (ps_set (i := 1) scPlacesRight.nd rfl (.inl rfl) (by exact (pe_lst (pa_cons (pe_position PC.p0.T bs_value PC.p0.J PC.f0 hr (by rfl) PC.p0.G (pa_cons (pv 0) pa_nil)) (pa_cons (pe_positionK PC.p1.T bs_value PC.p1.J PC.f1 hr (by rfl) PC.p1.G (by exact (pk_cons (pv 0) pk_nil))) (pa_cons (pe_position PC.p2.T bs_value PC.p2.J PC.f2 hr (by rfl) PC.p2.G (pa_cons (pv 0) pa_nil)) (pa_cons (pe_positionK PC.p3.T bs_value PC.p3.J PC.f3 hr (by rfl) PC.p3.G (by exact (pk_cons (pv 0) pk_nil))) pa_nil)))))))
  (pss_cons (ps_set (i := 1) scPlacesRight.nd rfl (.inl rfl) (by exact (pe_op op_cat (pv 1) (pe_lst (pa_cons (pe_position PC.p4.T bs_value PC.p4.J PC.f4 hr (by rfl) PC.p4.G (pa_cons (pv 0) pa_nil)) (pa_cons (pe_positionK PC.p5.T bs_value PC.p5.J PC.f5 hr (by rfl) PC.p5.G (by exact (pk_cons (pv 0) pk_nil))) (pa_cons (pe_position PC.p6.T bs_value PC.p6.J PC.f6 hr (by rfl) PC.p6.G (pa_cons (pv 0) pa_nil)) pa_nil)))))))
  (pss_cons (ps_if (pt_not (pt_val (pe_callB (cr_all rfl) (by rfl) X.m_all (by decide +kernel) (pa_cons (pe_lc (own := [("_law_e", 6)]) (g := gName 6) rfl scPlacesRight.nd (pi_list (pv 1)) (blkOk_by (own := [("_law_e", 6)]) (N := ["_law_thing", "_law_made", "_law_bounds", "_law_limits", "_law_told_here", "_law_family", "_law_e"]) (sc := defScope sPlacesRight) (by decide +kernel)) (fun _ _ _ _ _ => pg_name (i := 6) scPlacesRight.nd rfl (Or.inl rfl)) (fun _ _ _ _ _ => pts_nil) (fun _ _ _ _ _ => (pe_and (pe_isH K rfl (by rfl) X.m_isinstance (pa_cons (pv 6) (pa_cons (pe_glob (v := .ref (ad "BarredError")) (by rfl) PC.gB rfl) pa_nil))) (pe_one (pe_eqO hu64 (pe_fldK K rfl (pv 6)) (pv 0) (nomark _)))))) pa_nil))))
  (pss_one (ps_ret (by exact pe_bl)))
  pss_nil)
  (pss_cons (ps_par3 (i := 2) (j := 3) (l := 4) (by rfl) scPlacesRight.nd rfl rfl rfl (by decide) (by decide) (by decide) rfl rfl rfl (pa_cons (pe_low_highK PC.b.T bs_value PC.b.J PC.fb hr (by rfl) PC.b.G (by exact (pk_cons pe_int (pk_cons (pv 0) pk_nil)))) (pa_cons (pe_signK PC.l.T bs_value PC.l.J PC.fl hr (by rfl) PC.l.G (by exact (pk_cons (pv 0) pk_nil))) (pa_cons (pe_lineK PC.dd.T bs_value PC.dd.J PC.fd hr (by rfl) PC.dd.G (by exact (pk_cons (pv 0) pk_nil))) pa_nil))) (by rfl))
  (pss_cons (ps_if (pt_cmpR (op_neL hu64) (pe_lst (pa_cons (pe_fldK K rfl (pv 2)) (pa_cons (pe_fldK K rfl (pv 2)) (pa_cons (pe_fldK K rfl (pv 3)) (pa_cons (pe_fldK K rfl (pv 4)) pa_nil))))) (pe_lst (pa_cons (pv 0) (pa_cons pe_int (pa_cons (pv 0) (pa_cons (pv 0) pa_nil))))) (nomark _))
  (pss_one (ps_ret (by exact pe_bl)))
  pss_nil)
  (pss_cons (ps_set (i := 5) scPlacesRight.nd rfl (.inl rfl) (by exact (pe_op op_cat (pe_lst (pa_cons (pv 2) (pa_cons (pv 3) (pa_cons (pv 4) pa_nil)))) (pv 1))))
  (pss_cons (ps_if (pt_val (pe_callB (cr_any rfl) (by rfl) X.m_any (by decide +kernel) (pa_cons (pe_lc (own := [("_law_e", 6)]) (g := gName 6) rfl scPlacesRight.nd (pi_list (pv 5)) (blkOk_by (own := [("_law_e", 6)]) (N := ["_law_thing", "_law_made", "_law_bounds", "_law_limits", "_law_told_here", "_law_family", "_law_e"]) (sc := defScope sPlacesRight) (by decide +kernel)) (fun _ _ _ _ _ => pg_name (i := 6) scPlacesRight.nd rfl (Or.inl rfl)) (fun _ _ _ _ _ => pts_nil) (fun _ _ _ _ _ => (pe_isHT K rfl (by rfl) X.m_isinstance (pa_cons (pv 6) (pa_cons (pe_tup (pa_cons (pe_glob (v := .ref (ad "MissingError")) (by rfl) PC.gM rfl) (pa_cons (pe_glob (v := .ref (ad "StateError")) (by rfl) PC.gS rfl) (pa_cons (pe_glob (v := .ref (ad "LimitError")) (by rfl) PC.gL rfl) pa_nil)))) pa_nil))))) pa_nil)))
  (pss_one (ps_ret (by exact pe_bl)))
  pss_nil)
  (pss_one (ps_ret (by exact (pe_callB (cr_all rfl) (by rfl) X.m_all (by decide +kernel) (pa_cons (pe_lc (own := [("_law_e", 6)]) (g := gName 6) rfl scPlacesRight.nd (pi_list (pv 5)) (blkOk_by (own := [("_law_e", 6)]) (N := ["_law_thing", "_law_made", "_law_bounds", "_law_limits", "_law_told_here", "_law_family", "_law_e"]) (sc := defScope sPlacesRight) (by decide +kernel)) (fun _ _ _ _ _ => pg_name (i := 6) scPlacesRight.nd rfl (Or.inl rfl)) (fun _ _ _ _ _ => pts_nil) (fun _ _ _ _ _ => (pe_and (pe_isH K rfl (by rfl) X.m_isinstance (pa_cons (pv 6) (pa_cons (pe_glob (v := .ref (ad "BarredError")) (by rfl) PC.gB rfl) pa_nil))) (pe_one (pe_isH K rfl (by rfl) X.m_isinstance (pa_cons (pv 6) (pa_cons (pe_bltn (v := .ty "ValueError") (by rfl) X.m_ValueError (by decide +kernel) rfl) pa_nil))))))) pa_nil)))))))))))), ?_⟩
    refine st_first (f := "position") (Cs := [ad "InvalidTable", ad "InvalidWords", ad "InvalidSteps", ad "InvalidNumbers"]) (y := v) (by rfl) (by show 4 ≤ 1000; decide) fun es1 m1 H1 s1 e1 k1 => ?_
    refine st_more (f := "position") (Ds := [ad "InvalidText", ad "InvalidSharing", ad "InvalidBits"]) (by rfl) (by rfl) e1 k1 (by show 4 + 3 ≤ 1000; decide) fun es m H2 s2 e2 k2 => ?_
    have s := Same.trans s1 s2
    have hlen : (es.map V.ref).length ≤ 1000 := by rw [List.length_map, k2.len]; show 7 ≤ 1000; decide
    let G : Addr → Prop := fun C => PySem.W.kitOne K (.ref C) (.ref (ad "BarredError")) = some true ∧ PySem.W.kitAny K (.ref C) [.ref (ad "MissingError"), .ref (ad "StateError"), .ref (ad "LimitError")] = some false ∧ PySem.W.kitOne K (.ref C) (.type "ValueError") = some true
    have good : ∀ C ∈ [ad "InvalidTable", ad "InvalidWords", ad "InvalidSteps", ad "InvalidNumbers"] ++ [ad "InvalidText", ad "InvalidSharing", ad "InvalidBits"], EC K C ∧ PySem.W.findIn K (.ref C) "position" = some none ∧ G C := by
      intro C hC
      simp only [List.cons_append, List.nil_append, List.mem_cons, List.not_mem_nil, or_false] at hC
      rcases hC with rfl | rfl | rfl | rfl | rfl | rfl | rfl
      · exact ⟨PC.p0.T.ec, PC.f0.no, PC.p0.bar, PC.p0.far, PC.p0.val⟩
      · exact ⟨PC.p1.T.ec, PC.f1.no, PC.p1.bar, PC.p1.far, PC.p1.val⟩
      · exact ⟨PC.p2.T.ec, PC.f2.no, PC.p2.bar, PC.p2.far, PC.p2.val⟩
      · exact ⟨PC.p3.T.ec, PC.f3.no, PC.p3.bar, PC.p3.far, PC.p3.val⟩
      · exact ⟨PC.p4.T.ec, PC.f4.no, PC.p4.bar, PC.p4.far, PC.p4.val⟩
      · exact ⟨PC.p5.T.ec, PC.f5.no, PC.p5.bar, PC.p5.far, PC.p5.val⟩
      · exact ⟨PC.p6.T.ec, PC.f6.no, PC.p6.bar, PC.p6.far, PC.p6.val⟩
    refine ⟨.ref m, rfl, m, rfl, ⟨_, SqL.of e2⟩, fun D hD => ?_⟩
    refine lc_bools true hD e2 hlen (fun _ => rfl) (fun x hx H' s' Q q => ?_) (fun H3 s3 eD => ?_)
    · obtain ⟨e, he, rfl⟩ := List.mem_map.mp hx
      obtain ⟨C, hC, hc⟩ := k2.mem e he
      obtain ⟨dd, hs⟩ := hc.stands
      obtain ⟨g1, g2, g3, g4, g5⟩ := good C hC
      obtain ⟨d2, ha, hb⟩ := hc
      exact ⟨.ref e, rfl, e, C, dd, .ref (ad "BarredError"), _, true, rfl, hs.same s', g1, .own _, g3, true, rfl, iteT ⟨.ref e, rfl, e, C, d2, _, v, rfl, s' _ _ ha, s' _ _ hb, g1, g2, by simp [List.lookup], v, rfl, rfl, ⟨d, hd.same (Same.trans s s'), hk⟩, q _ (fun _ _ z => z)⟩⟩
    · have ea : (List.replicate (es.map V.ref).length true).all id = true := by simp
      refine ⟨D, _, rfl, SqL.of eD, _, rfl, ?_⟩
      rw [ea]
      refine iteF ?_
      refine ⟨v, rfl, _, _, rfl, fun a1 d1 ha1 hd1 n1 => ⟨v, rfl, _, rfl, fun a2 d2 ha2 hd2 n2 => ⟨v, rfl, _, rfl, fun a3 d3 ha3 hd3 n3 => ⟨_, _, _, rfl, ?_⟩⟩⟩⟩
      have p1 := put_same ha1 hd1 (C := ad "InvalidBounds") (fs := [(("high" : Str), V.int 0), (("low" : Str), v)])
      have p2 := put_same ha2 hd2 (C := ad "InvalidLimits") (fs := [(("sign" : Str), v)])
      have p3 := put_same ha3 hd3 (C := ad "InvalidDescription") (fs := [(("line" : Str), v)])
      have p23 := Same.trans p2 p3
      have p13 := Same.trans p1 p23
      obtain ⟨A1, B1⟩ := put_at ha1 hd1 n1 (C := ad "InvalidBounds") (fs := [(("high" : Str), V.int 0), (("low" : Str), v)])
      obtain ⟨A2, B2⟩ := put_at ha2 hd2 n2 (C := ad "InvalidLimits") (fs := [(("sign" : Str), v)])
      obtain ⟨A3, B3⟩ := put_at ha3 hd3 n3 (C := ad "InvalidDescription") (fs := [(("line" : Str), v)])
      have st1 := (put_stands n1 (H := H3) (a := a1) (C := ad "InvalidBounds") (fs := [(("high" : Str), V.int 0), (("low" : Str), v)])).same p23
      have st2 := (put_stands n2 (H := put2 H3 a1 (ad "InvalidBounds") d1 [(("high" : Str), V.int 0), (("low" : Str), v)]) (a := a2) (C := ad "InvalidLimits") (fs := [(("sign" : Str), v)])).same p3
      have st3 := put_stands n3 (H := put2 (put2 H3 a1 (ad "InvalidBounds") d1 [(("high" : Str), V.int 0), (("low" : Str), v)]) a2 (ad "InvalidLimits") d2 [(("sign" : Str), v)]) (a := a3) (C := ad "InvalidDescription") (fs := [(("line" : Str), v)])
      have e6 := p13 _ _ (s3 _ _ e2)
      have k6 := (k2.same s3).same p13
      have A1' := p23 _ _ A1
      have B1' := p23 _ _ B1
      have A2' := p3 _ _ A2
      have B2' := p3 _ _ B2
      clear A1 B1 A2 B2 p1 p2 p3 p23
      generalize put2 (put2 (put2 H3 a1 (ad "InvalidBounds") d1 [(("high" : Str), V.int 0), (("low" : Str), v)]) a2 (ad "InvalidLimits") d2 [(("sign" : Str), v)]) a3 (ad "InvalidDescription") d3 [(("line" : Str), v)] = H6 at p13 st1 st2 st3 A1' B1' A2' B2' A3 B3 e6 k6 ⊢
      refine ⟨.ref a1, rfl, a1, _, d1, _, v, rfl, A1', B1', PC.b.T.ec, PC.fb.noA, (by first | rfl | simp [List.lookup]), .ref a1, rfl, a1, _, d1, _, .int 0, rfl, A1', B1', PC.b.T.ec, PC.fb.noB, (by first | rfl | simp [List.lookup]),
        .ref a2, rfl, a2, _, d2, _, v, rfl, A2', B2', PC.l.T.ec, PC.fl.no, (by first | rfl | simp [List.lookup]), .ref a3, rfl, a3, _, d3, _, v, rfl, A3, B3, PC.dd.T.ec, PC.fd.no, (by first | rfl | simp [List.lookup]),
        (by show 4 ≤ sizeLine; decide), fun l1 hl1 => ⟨v, rfl, v, rfl, v, rfl, (by show 4 ≤ sizeLine; decide), fun l2 hl2 => ⟨l1, l2, _, rfl, rfl, (by rw [upd_ne (ne_of_none upd_same hl2)]; exact upd_same), upd_same, ?_, ?_⟩⟩⟩
      · intro x hx
        have hv := hd.flat
        simp only [List.mem_cons, List.not_mem_nil, or_false] at hx
        rcases hx with rfl | rfl | rfl | rfl
        · exact hv
        · exact .inl rfl
        · exact hv
        · exact hv
      have q1 := Same.trans (Same.new hl1 (o := .lst [v, .int 0, v, v])) (Same.new hl2 (o := .lst [v, .int 0, v, v]))
      refine ⟨_, rfl, iteF ⟨.ref a1, rfl, .ref a2, rfl, .ref a3, rfl, (by show 3 ≤ sizeLine; decide), fun l3 hl3 => ⟨.ref m, rfl, l3, m, _, _, rfl, rfl, upd_same, Same.new hl3 _ _ (q1 _ _ e6), (by simp only [List.length_cons, List.length_nil]; rw [sizeLine_eq]; omega), fun F hF => ?_⟩⟩⟩
      have q2 := Same.trans (Same.trans q1 (Same.new hl3 (o := .lst [.ref a1, .ref a2, .ref a3]))) (Same.new hF (o := .lst ([.ref a1, .ref a2, .ref a3] ++ es.map V.ref)))
      have fam : ∀ x ∈ [V.ref a1, .ref a2, .ref a3] ++ es.map V.ref, Fam K G (upd (upd (upd (upd H6 l1 (.lst [v, .int 0, v, v])) l2 (.lst [v, .int 0, v, v])) l3 (.lst [.ref a1, .ref a2, .ref a3])) F (.lst ([.ref a1, .ref a2, .ref a3] ++ es.map V.ref))) x := by
        intro x hx
        rcases List.mem_append.mp hx with hx | hx
        · simp only [List.mem_cons, List.not_mem_nil, or_false] at hx
          rcases hx with rfl | rfl | rfl
          · exact ⟨a1, _, _, rfl, st1.same q2, PC.b.T.ec, PC.b.bar, PC.b.far, PC.b.val⟩
          · exact ⟨a2, _, _, rfl, st2.same q2, PC.l.T.ec, PC.l.bar, PC.l.far, PC.l.val⟩
          · exact ⟨a3, _, _, rfl, st3.same q2, PC.dd.T.ec, PC.dd.bar, PC.dd.far, PC.dd.val⟩
        · obtain ⟨e, he, rfl⟩ := List.mem_map.mp hx
          obtain ⟨C, hC, hc⟩ := k6.mem e he
          obtain ⟨dd, hs⟩ := hc.stands
          obtain ⟨g1, g2, g⟩ := good C hC
          exact ⟨e, C, dd, rfl, hs.same q2, g1, g⟩
      have flen : ([V.ref a1, .ref a2, .ref a3] ++ es.map V.ref).length ≤ 1000 := by rw [List.length_append, List.length_map, k2.len]; show 3 + 7 ≤ 1000; decide
      have eF : (upd (upd (upd (upd H6 l1 (.lst [v, .int 0, v, v])) l2 (.lst [v, .int 0, v, v])) l3 (.lst [.ref a1, .ref a2, .ref a3])) F (.lst ([.ref a1, .ref a2, .ref a3] ++ es.map V.ref))) F = some (.lst ([.ref a1, .ref a2, .ref a3] ++ es.map V.ref)) := upd_same
      have sAll := Same.trans (Same.trans (Same.trans s s3) p13) q2
      refine ⟨.ref F, rfl, F, rfl, ⟨_, SqL.of eF⟩, fun D2 hD2 => ?_⟩
      refine lc_bools false hD2 eF flen (fun _ => rfl) (fun x hx H4 s4 Q q => ?_) (fun H4 s4 eD2 => ?_)
      · obtain ⟨e, C, dd, rfl, hs, ec, g1, g2, g3⟩ := fam x hx
        exact ⟨.ref e, rfl, (by show 3 ≤ sizeLine; decide), fun t ht => ⟨e, C, dd, t, _, _, false, rfl, (hs.same s4).same (Same.new ht), ec, upd_same, .cons (.own _) (.cons (.own _) (.cons (.own _) .nil)), g2, q _ (Same.new ht)⟩⟩
      · have ea : (List.replicate ([V.ref a1, .ref a2, .ref a3] ++ es.map V.ref).length false).any id = false := by simp
        refine ⟨D2, _, rfl, SqL.of eD2, _, rfl, ?_⟩
        rw [ea]
        refine iteF ⟨.ref F, rfl, F, rfl, ⟨_, SqL.of (s4 _ _ eF)⟩, fun D3 hD3 => ?_⟩
        refine lc_bools true hD3 (s4 _ _ eF) flen (fun _ => rfl) (fun x hx H5 s5 Q q => ?_) (fun H5 s5 eD3 => ?_)
        · obtain ⟨e, C, dd, rfl, hs, ec, g1, g2, g3⟩ := fam x hx
          have hs' := (hs.same s4).same s5
          exact ⟨.ref e, rfl, e, C, dd, .ref (ad "BarredError"), _, true, rfl, hs', ec, .own _, g1, true, rfl, iteT ⟨.ref e, rfl, e, C, dd, .ty "ValueError", _, true, rfl, hs', ec, .ty _, g3, q _ (fun _ _ z => z)⟩⟩
        · have ea : (List.replicate ([V.ref a1, .ref a2, .ref a3] ++ es.map V.ref).length true).all id = true := by simp
          refine ⟨D3, _, rfl, SqL.of eD3, ?_⟩
          rw [ea]
          exact q _ (Same.trans (Same.trans sAll s4) s5)
end
end K11
end

section
set_option maxHeartbeats 4000000
/-! errors of the three other families -/
namespace K11
open PySem PySem.Spec PyProof.Rows L2
structure CC (K : PySem.W.Frag) (mg : Str → Option Value) (x : Str) (C fI : Addr) (bmB : List Value) (newId : String) : Prop where
  T : XB K C bmB newId
  J : XI K C fI
  G : mg x = some (.ref C)
structure C0 (K : PySem.W.Frag) (mg : Str → Option Value) (x : Str) (C : Addr) : Prop where
  q : PySem.W.excIn K C [.type "RuntimeError", .type "Exception", .type "BaseException", .type "object"] "RuntimeError.__new__" = true
  G : mg x = some (.ref C)
  kp : PySem.W.keepIn K (.ref C) = true
  ec : EC K C
structure GSt (K : PySem.W.Frag) (ad : Str → Addr) (C : Addr) : Prop where
  far : PySem.W.kitAny K (.ref C) [.ref (ad "BarredError"), .ref (ad "MissingError"), .ref (ad "LimitError"), .type "NotImplementedError"] = some false
  st : PySem.W.kitOne K (.ref C) (.ref (ad "StateError")) = some true
  rt : PySem.W.kitOne K (.ref C) (.type "RuntimeError") = some true
structure GMi (K : PySem.W.Frag) (ad : Str → Addr) (C : Addr) : Prop where
  far : PySem.W.kitAny K (.ref C) [.type "KeyError", .type "IndexError", .ref (ad "BarredError"), .ref (ad "StateError")] = some false
  mi : PySem.W.kitOne K (.ref C) (.ref (ad "MissingError")) = some true
  lo : PySem.W.kitOne K (.ref C) (.type "LookupError") = some true
structure FamC (K : PySem.W.Frag) (mg : Str → Option Value) (ad : Str → Addr) : Prop where
  cUnknownWay : CC K mg "UnknownWay" (ad "UnknownWay") (ad "UnknownWay.__init__") [.type "LookupError", .type "Exception", .type "BaseException", .type "object"] "LookupError.__new__"
  fUnknownWay : XF_state_sign K (ad "UnknownWay") (ad "UnknownWay.__init__")
  sUnknownWay : GMi K ad (ad "UnknownWay")
  cUnknownName : CC K mg "UnknownName" (ad "UnknownName") (ad "UnknownName.__init__") [.type "LookupError", .type "Exception", .type "BaseException", .type "object"] "LookupError.__new__"
  fUnknownName : XF_value K (ad "UnknownName") (ad "UnknownName.__init__")
  sUnknownName : GMi K ad (ad "UnknownName")
  cOtherSigns : CC K mg "OtherSigns" (ad "OtherSigns") (ad "OtherSigns.__init__") [.type "RuntimeError", .type "Exception", .type "BaseException", .type "object"] "RuntimeError.__new__"
  fOtherSigns : XF_one_other K (ad "OtherSigns") (ad "OtherSigns.__init__")
  sOtherSigns : GSt K ad (ad "OtherSigns")
  cOtherRate : CC K mg "OtherRate" (ad "OtherRate") (ad "OtherRate.__init__") [.type "RuntimeError", .type "Exception", .type "BaseException", .type "object"] "RuntimeError.__new__"
  fOtherRate : XF_one_other K (ad "OtherRate") (ad "OtherRate.__init__")
  sOtherRate : GSt K ad (ad "OtherRate")
  cNoWeights : CC K mg "NoWeights" (ad "NoWeights") (ad "NoWeights.__init__") [.type "RuntimeError", .type "Exception", .type "BaseException", .type "object"] "RuntimeError.__new__"
  fNoWeights : XF_paper K (ad "NoWeights") (ad "NoWeights.__init__")
  sNoWeights : GSt K ad (ad "NoWeights")
  cDoesNotFit : CC K mg "DoesNotFit" (ad "DoesNotFit") (ad "DoesNotFit.__init__") [.type "RuntimeError", .type "Exception", .type "BaseException", .type "object"] "RuntimeError.__new__"
  fDoesNotFit : XF_text K (ad "DoesNotFit") (ad "DoesNotFit.__init__")
  sDoesNotFit : GSt K ad (ad "DoesNotFit")
  cLosesSomething : CC K mg "LosesSomething" (ad "LosesSomething") (ad "LosesSomething.__init__") [.type "RuntimeError", .type "Exception", .type "BaseException", .type "object"] "RuntimeError.__new__"
  fLosesSomething : XF_clash K (ad "LosesSomething") (ad "LosesSomething.__init__")
  sLosesSomething : GSt K ad (ad "LosesSomething")
  cLost : CC K mg "Lost" (ad "Lost") (ad "Lost.__init__") [.type "RuntimeError", .type "Exception", .type "BaseException", .type "object"] "RuntimeError.__new__"
  fLost : XF_position K (ad "Lost") (ad "Lost.__init__")
  sLost : GSt K ad (ad "Lost")
  cNameTaken : CC K mg "NameTaken" (ad "NameTaken") (ad "NameTaken.__init__") [.type "RuntimeError", .type "Exception", .type "BaseException", .type "object"] "RuntimeError.__new__"
  fNameTaken : XF_name K (ad "NameTaken") (ad "NameTaken.__init__")
  sNameTaken : GSt K ad (ad "NameTaken")
  cCommandFailed : CC K mg "CommandFailed" (ad "CommandFailed") (ad "CommandFailed.__init__") [.type "RuntimeError", .type "Exception", .type "BaseException", .type "object"] "RuntimeError.__new__"
  fCommandFailed : XF_position K (ad "CommandFailed") (ad "CommandFailed.__init__")
  sCommandFailed : GSt K ad (ad "CommandFailed")
  cTooMany : CC K mg "TooMany" (ad "TooMany") (ad "TooMany.__init__") [.type "ArithmeticError", .type "Exception", .type "BaseException", .type "object"] "ArithmeticError.__new__"
  fTooMany : XF_what_limit K (ad "TooMany") (ad "TooMany.__init__")
  eNothingLeft : C0 K mg "NothingLeft" (ad "NothingLeft")
  sNothingLeft : GSt K ad (ad "NothingLeft")
  eOtherMedium : C0 K mg "OtherMedium" (ad "OtherMedium")
  sOtherMedium : GSt K ad (ad "OtherMedium")
  eNoLookAhead : C0 K mg "NoLookAhead" (ad "NoLookAhead")
  sNoLookAhead : GSt K ad (ad "NoLookAhead")
  eNoWindow : C0 K mg "NoWindow" (ad "NoWindow")
  sNoWindow : GSt K ad (ad "NoWindow")
  eNotEven : C0 K mg "NotEven" (ad "NotEven")
  sNotEven : GSt K ad (ad "NotEven")
  eNothingToUndo : C0 K mg "NothingToUndo" (ad "NothingToUndo")
  sNothingToUndo : GSt K ad (ad "NothingToUndo")
  great : PySem.W.kitAny K (.ref (ad "TooMany")) [.ref (ad "BarredError"), .ref (ad "StateError"), .type "OverflowError"] = some false
  great1 : PySem.W.kitOne K (.ref (ad "TooMany")) (.ref (ad "LimitError")) = some true
  great2 : PySem.W.kitOne K (.ref (ad "TooMany")) (.type "ArithmeticError") = some true
  gM : mg "MissingError" = some (.ref (ad "MissingError"))
  gS : mg "StateError" = some (.ref (ad "StateError"))
  gL : mg "LimitError" = some (.ref (ad "LimitError"))
  gB : mg "BarredError" = some (.ref (ad "BarredError"))
/-- an own error of the class C with the fields fs -/
def Has (H : Hp) (e C : Addr) (fs : List (Str × V)) : Prop := ∃ d, H e = some (exo e C (some d)) ∧ H d = some (exd d fs)
theorem Has.same {H H' : Hp} {e C : Addr} {fs : List (Str × V)} (h : Has H e C fs) (s : Same H H') : Has H' e C fs := by
  obtain ⟨d, a, b⟩ := h
  exact ⟨d, s _ _ a, s _ _ b⟩
theorem Has.stands {H : Hp} {e C : Addr} {fs : List (Str × V)} (h : Has H e C fs) : ∃ d, Stands H e C d := by
  obtain ⟨d, a, b⟩ := h
  exact ⟨some d, a, fun dd z => by cases z; exact ⟨_, b⟩⟩
theorem has_put {H : Hp} {a C d : Addr} {fs : List (Str × V)} (ne : d ≠ a) : Has (put2 H a C d fs) a C fs := ⟨d, upd_same, by unfold put2; rw [upd_ne ne]; exact upd_same⟩
theorem st_bare {H : Hp} {a C : Addr} : Stands (upd H a (exo a C none)) a C none := ⟨upd_same, fun _ z => by cases z⟩
section
variable {P : Program} {w : World} {K : PySem.W.Frag} {mg : Str → Option Value} {base : Heap} {ad : Str → Addr} {fd : Str → FuncData}
theorem scFamiliesRight : FnScope ["_law_thing", "_law_unknown", "_law_lacking", "_law_family", "_law_told_here", "_law_near", "_law_far", "_law_great", "_law_e"] ["_law_thing"] (defScope sFamiliesRight) := ⟨rfl, rfl, rfl, by decide +kernel, rfl, by decide +kernel, by decide +kernel⟩
theorem ok_families (X : Tx K mg ad fd) (FC : FamC K mg ad) : FnOk P w K mg base CX0 2 (ad "_law_families_right") (fd "_law_families_right") ["_law_thing"] spOddB := by
  refine X.F__law_families_right.ok scFamiliesRight (fun vs H Q E h => ?_) (fun cdv A outer s H vs Q E hr h => ?_)
  · obtain ⟨v, d, rfl, _⟩ := h
    rfl
  · obtain ⟨v, d, rfl, hd, hk, q⟩ := h
    have hu64 := hr.units
    refine ⟨_, (pss_cons (ps_par (i := 1) (j := 2) (by rfl) scFamiliesRight.nd rfl rfl (by decide) rfl rfl (pa_cons (pe_state_signK FC.cUnknownWay.T bs_lookup FC.cUnknownWay.J FC.fUnknownWay hr (by rfl) FC.cUnknownWay.G (by exact (pk_cons (pv 0) (pk_cons pe_int pk_nil)))) (pa_cons (pe_valueK FC.cUnknownName.T bs_lookup FC.cUnknownName.J FC.fUnknownName hr (by rfl) FC.cUnknownName.G (by exact (pk_cons (pv 0) pk_nil))) pa_nil)) (by rfl))
  (pss_cons (ps_set (i := 3) scFamiliesRight.nd rfl (.inl rfl) (by exact (pe_lst (pa_cons (pe_one_otherK FC.cOtherSigns.T bs_runtime FC.cOtherSigns.J FC.fOtherSigns hr (by rfl) FC.cOtherSigns.G (by exact (pk_cons pe_int (pk_cons (pv 0) pk_nil)))) (pa_cons (pe_one_otherK FC.cOtherRate.T bs_runtime FC.cOtherRate.J FC.fOtherRate hr (by rfl) FC.cOtherRate.G (by exact (pk_cons (pv 0) (pk_cons pe_int pk_nil)))) pa_nil)))))
  (pss_cons (ps_set (i := 4) scFamiliesRight.nd rfl (.inl rfl) (by exact (pe_lst (pa_cons (pe_fldK K rfl (pv 1)) (pa_cons (pe_fldK K rfl (pv 1)) (pa_cons (pe_fldK K rfl (pv 2)) (pa_cons (pe_fldK K rfl (pe_ix ix_list (pv 3) pe_int (fun _ _ => rfl))) (pa_cons (pe_fldK K rfl (pe_ix ix_list (pv 3) pe_int (fun _ _ => rfl))) pa_nil))))))))
  (pss_cons (ps_if (pt_cmpR (op_neL hu64) (pe_op op_cat (pv 4) (pe_lst (pa_cons (pe_fldK K rfl (pe_ix ix_list (pv 3) pe_int (fun _ _ => rfl))) (pa_cons (pe_fldK K rfl (pe_ix ix_list (pv 3) pe_int (fun _ _ => rfl))) pa_nil)))) (pe_lst (pa_cons pe_int (pa_cons (pv 0) (pa_cons (pv 0) (pa_cons (pv 0) (pa_cons pe_int (pa_cons pe_int (pa_cons (pv 0) pa_nil)))))))) (nomark _))
  (pss_one (ps_ret (by exact pe_bl)))
  pss_nil)
  (pss_cons (ps_set (i := 5) scFamiliesRight.nd rfl (.inl rfl) (by exact (pe_lst (pa_cons (pe_paperK FC.cNoWeights.T bs_runtime FC.cNoWeights.J FC.fNoWeights hr (by rfl) FC.cNoWeights.G (by exact (pk_cons (pv 0) pk_nil))) (pa_cons (pe_textK FC.cDoesNotFit.T bs_runtime FC.cDoesNotFit.J FC.fDoesNotFit hr (by rfl) FC.cDoesNotFit.G (by exact (pk_cons (pv 0) pk_nil))) (pa_cons (pe_clashK FC.cLosesSomething.T bs_runtime FC.cLosesSomething.J FC.fLosesSomething hr (by rfl) FC.cLosesSomething.G (by exact (pk_cons (pv 0) pk_nil))) pa_nil))))))
  (pss_cons (ps_set (i := 6) scFamiliesRight.nd rfl (.inl rfl) (by exact (pe_lst (pa_cons (pe_positionK FC.cLost.T bs_runtime FC.cLost.J FC.fLost hr (by rfl) FC.cLost.G (by exact (pk_cons (pv 0) pk_nil))) (pa_cons (pe_nameK FC.cNameTaken.T bs_runtime FC.cNameTaken.J FC.fNameTaken hr (by rfl) FC.cNameTaken.G (by exact (pk_cons (pv 0) pk_nil))) (pa_cons (pe_positionK FC.cCommandFailed.T bs_runtime FC.cCommandFailed.J FC.fCommandFailed hr (by rfl) FC.cCommandFailed.G (by exact (pk_cons (pv 0) pk_nil))) pa_nil))))))
  (pss_cons (ps_if (pt_cmpR (op_neL hu64) (pe_lst (pa_cons (pe_fldK K rfl (pe_ix ix_list (pv 5) pe_int (fun _ _ => rfl))) (pa_cons (pe_fldK K rfl (pe_ix ix_list (pv 5) pe_int (fun _ _ => rfl))) (pa_cons (pe_fldK K rfl (pe_ix ix_list (pv 5) pe_int (fun _ _ => rfl))) pa_nil)))) (pe_op op_rep (pe_lst (pa_cons (pv 0) pa_nil)) pe_int) (nomark _))
  (pss_one (ps_ret (by exact pe_bl)))
  pss_nil)
  (pss_cons (ps_if (pt_cmpR (op_neL hu64) (pe_lst (pa_cons (pe_fldK K rfl (pe_ix ix_list (pv 6) pe_int (fun _ _ => rfl))) (pa_cons (pe_fldK K rfl (pe_ix ix_list (pv 6) pe_int (fun _ _ => rfl))) (pa_cons (pe_fldK K rfl (pe_ix ix_list (pv 6) pe_int (fun _ _ => rfl))) pa_nil)))) (pe_op op_rep (pe_lst (pa_cons (pv 0) pa_nil)) pe_int) (nomark _))
  (pss_one (ps_ret (by exact pe_bl)))
  pss_nil)
  (pss_cons (ps_set (i := 7) scFamiliesRight.nd rfl (.inl rfl) (by exact (pe_what_limitK FC.cTooMany.T bs_arith FC.cTooMany.J FC.fTooMany hr (by rfl) FC.cTooMany.G (by exact (pk_cons (pv 0) (pk_cons pe_int pk_nil))))))
  (pss_cons (ps_if (PW.pt (pw_or (pt_cmpR (op_neL hu64) (pe_lst (pa_cons (pe_fldK K rfl (pv 7)) (pa_cons (pe_fldK K rfl (pv 7)) pa_nil))) (pe_lst (pa_cons pe_int (pa_cons (pv 0) pa_nil))) (nomark _)) (pw_or1 (pt_val (pe_isHT K rfl (by rfl) X.m_isinstance (pa_cons (pv 7) (pa_cons (pe_tup (pa_cons (pe_glob (v := .ref (ad "BarredError")) (by rfl) FC.gB rfl) (pa_cons (pe_glob (v := .ref (ad "StateError")) (by rfl) FC.gS rfl) (pa_cons (pe_bltn (v := .ty "OverflowError") (by rfl) X.m_OverflowError (by decide +kernel) rfl) pa_nil)))) pa_nil)))))))
  (pss_one (ps_ret (by exact pe_bl)))
  pss_nil)
  (pss_cons (ps_set (i := 3) scFamiliesRight.nd rfl (.inl rfl) (by exact (pe_op op_cat (pe_op op_cat (pe_op op_cat (pv 3) (pv 5)) (pv 6)) (pe_lst (pa_cons (pe_exc0 bs_runtime.F FC.eNothingLeft.q FC.eNothingLeft.G FC.eNothingLeft.kp (by rfl)) (pa_cons (pe_exc0 bs_runtime.F FC.eOtherMedium.q FC.eOtherMedium.G FC.eOtherMedium.kp (by rfl)) (pa_cons (pe_exc0 bs_runtime.F FC.eNoLookAhead.q FC.eNoLookAhead.G FC.eNoLookAhead.kp (by rfl)) pa_nil)))))))
  (pss_cons (ps_set (i := 3) scFamiliesRight.nd rfl (.inl rfl) (by exact (pe_op op_cat (pv 3) (pe_lst (pa_cons (pe_exc0 bs_runtime.F FC.eNoWindow.q FC.eNoWindow.G FC.eNoWindow.kp (by rfl)) (pa_cons (pe_exc0 bs_runtime.F FC.eNotEven.q FC.eNotEven.G FC.eNotEven.kp (by rfl)) (pa_cons (pe_exc0 bs_runtime.F FC.eNothingToUndo.q FC.eNothingToUndo.G FC.eNothingToUndo.kp (by rfl)) pa_nil)))))))
  (pss_cons (ps_if (pt_val (pe_callB (cr_any rfl) (by rfl) X.m_any (by decide +kernel) (pa_cons (pe_lc (own := [("_law_e", 8)]) (g := gName 8) rfl scFamiliesRight.nd (pi_list (pv 3)) (blkOk_by (own := [("_law_e", 8)]) (N := ["_law_thing", "_law_unknown", "_law_lacking", "_law_family", "_law_told_here", "_law_near", "_law_far", "_law_great", "_law_e"]) (sc := defScope sFamiliesRight) (by decide +kernel)) (fun _ _ _ _ _ => pg_name (i := 8) scFamiliesRight.nd rfl (Or.inl rfl)) (fun _ _ _ _ _ => pts_nil) (fun _ _ _ _ _ => (pe_isHT K rfl (by rfl) X.m_isinstance (pa_cons (pv 8) (pa_cons (pe_tup (pa_cons (pe_glob (v := .ref (ad "BarredError")) (by rfl) FC.gB rfl) (pa_cons (pe_glob (v := .ref (ad "MissingError")) (by rfl) FC.gM rfl) (pa_cons (pe_glob (v := .ref (ad "LimitError")) (by rfl) FC.gL rfl) (pa_cons (pe_bltn (v := .ty "NotImplementedError") (by rfl) X.m_NotImplementedError (by decide +kernel) rfl) pa_nil))))) pa_nil))))) pa_nil)))
  (pss_one (ps_ret (by exact pe_bl)))
  pss_nil)
  (pss_cons (ps_if (pt_not (pt_val (pe_callB (cr_all rfl) (by rfl) X.m_all (by decide +kernel) (pa_cons (pe_lc (own := [("_law_e", 8)]) (g := gName 8) rfl scFamiliesRight.nd (pi_list (pv 3)) (blkOk_by (own := [("_law_e", 8)]) (N := ["_law_thing", "_law_unknown", "_law_lacking", "_law_family", "_law_told_here", "_law_near", "_law_far", "_law_great", "_law_e"]) (sc := defScope sFamiliesRight) (by decide +kernel)) (fun _ _ _ _ _ => pg_name (i := 8) scFamiliesRight.nd rfl (Or.inl rfl)) (fun _ _ _ _ _ => pts_nil) (fun _ _ _ _ _ => (pe_and (pe_isH K rfl (by rfl) X.m_isinstance (pa_cons (pv 8) (pa_cons (pe_glob (v := .ref (ad "StateError")) (by rfl) FC.gS rfl) pa_nil))) (pe_one (pe_isH K rfl (by rfl) X.m_isinstance (pa_cons (pv 8) (pa_cons (pe_bltn (v := .ty "RuntimeError") (by rfl) X.m_RuntimeError (by decide +kernel) rfl) pa_nil))))))) pa_nil))))
  (pss_one (ps_ret (by exact pe_bl)))
  pss_nil)
  (pss_cons (ps_if (pt_val (pe_callB (cr_any rfl) (by rfl) X.m_any (by decide +kernel) (pa_cons (pe_lc (own := [("_law_e", 8)]) (g := gName 8) rfl scFamiliesRight.nd (pi_list (pe_lst (pa_cons (pv 1) (pa_cons (pv 2) pa_nil)))) (blkOk_by (own := [("_law_e", 8)]) (N := ["_law_thing", "_law_unknown", "_law_lacking", "_law_family", "_law_told_here", "_law_near", "_law_far", "_law_great", "_law_e"]) (sc := defScope sFamiliesRight) (by decide +kernel)) (fun _ _ _ _ _ => pg_name (i := 8) scFamiliesRight.nd rfl (Or.inl rfl)) (fun _ _ _ _ _ => pts_nil) (fun _ _ _ _ _ => (pe_isHT K rfl (by rfl) X.m_isinstance (pa_cons (pv 8) (pa_cons (pe_tup (pa_cons (pe_bltn (v := .ty "KeyError") (by rfl) X.m_KeyError (by decide +kernel) rfl) (pa_cons (pe_bltn (v := .ty "IndexError") (by rfl) X.m_IndexError (by decide +kernel) rfl) (pa_cons (pe_glob (v := .ref (ad "BarredError")) (by rfl) FC.gB rfl) (pa_cons (pe_glob (v := .ref (ad "StateError")) (by rfl) FC.gS rfl) pa_nil))))) pa_nil))))) pa_nil)))
  (pss_one (ps_ret (by exact pe_bl)))
  pss_nil)
  (pss_cons (ps_if (pt_not (pt_val (pe_callB (cr_all rfl) (by rfl) X.m_all (by decide +kernel) (pa_cons (pe_lc (own := [("_law_e", 8)]) (g := gName 8) rfl scFamiliesRight.nd (pi_list (pe_lst (pa_cons (pv 1) (pa_cons (pv 2) pa_nil)))) (blkOk_by (own := [("_law_e", 8)]) (N := ["_law_thing", "_law_unknown", "_law_lacking", "_law_family", "_law_told_here", "_law_near", "_law_far", "_law_great", "_law_e"]) (sc := defScope sFamiliesRight) (by decide +kernel)) (fun _ _ _ _ _ => pg_name (i := 8) scFamiliesRight.nd rfl (Or.inl rfl)) (fun _ _ _ _ _ => pts_nil) (fun _ _ _ _ _ => (pe_and (pe_isH K rfl (by rfl) X.m_isinstance (pa_cons (pv 8) (pa_cons (pe_glob (v := .ref (ad "MissingError")) (by rfl) FC.gM rfl) pa_nil))) (pe_one (pe_isH K rfl (by rfl) X.m_isinstance (pa_cons (pv 8) (pa_cons (pe_bltn (v := .ty "LookupError") (by rfl) X.m_LookupError (by decide +kernel) rfl) pa_nil))))))) pa_nil))))
  (pss_one (ps_ret (by exact pe_bl)))
  pss_nil)
  (pss_one (ps_ret (by exact (pe_and (pe_isH K rfl (by rfl) X.m_isinstance (pa_cons (pv 7) (pa_cons (pe_glob (v := .ref (ad "LimitError")) (by rfl) FC.gL rfl) pa_nil))) (pe_one (pe_isH K rfl (by rfl) X.m_isinstance (pa_cons (pv 7) (pa_cons (pe_bltn (v := .ty "ArithmeticError") (by rfl) X.m_ArithmeticError (by decide +kernel) rfl) pa_nil)))))))))))))))))))))))), ?_⟩
    have fv := hd.flat
    have fz : flatB (V.int 0) = true ∨ ∃ c, V.int 0 = V.ref c := .inl rfl
    have sH : Same H H := fun _ _ z => z
    refine ⟨v, rfl, _, _, rfl, fun a1 d1 ha1 hd1 n1 => ⟨v, rfl, _, rfl, fun a2 d2 ha2 hd2 n2 => ⟨_, _, rfl, ?_⟩⟩⟩
    have sH1 : Same H (put2 (put2 H a1 (ad "UnknownWay") d1 [(("sign" : Str), v), (("state" : Str), V.int 0)]) a2 (ad "UnknownName") d2 [(("value" : Str), v)]) := Same.trans (put_same (C := ad "UnknownWay") (fs := [(("sign" : Str), v), (("state" : Str), V.int 0)]) ha1 hd1) (put_same (C := ad "UnknownName") (fs := [(("value" : Str), v)]) ha2 hd2)
    have K1 := ((has_put (H := H) (C := ad "UnknownWay") (fs := [(("sign" : Str), v), (("state" : Str), V.int 0)]) n1)).same (put_same (C := ad "UnknownName") (fs := [(("value" : Str), v)]) ha2 hd2)
    have K2 := (has_put (H := (put2 H a1 (ad "UnknownWay") d1 [(("sign" : Str), v), (("state" : Str), V.int 0)])) (C := ad "UnknownName") (fs := [(("value" : Str), v)]) n2)
    replace sH := Same.trans sH sH1
    generalize (put2 (put2 H a1 (ad "UnknownWay") d1 [(("sign" : Str), v), (("state" : Str), V.int 0)]) a2 (ad "UnknownName") d2 [(("value" : Str), v)]) = H1 at sH1 K1 K2 sH ⊢
    refine ⟨v, rfl, _, _, rfl, fun a3 d3 ha3 hd3 n3 => ⟨v, rfl, _, _, rfl, fun a4 d4 ha4 hd4 n4 => ⟨(by show 2 ≤ sizeLine; decide), fun l1 hl1 => ?_⟩⟩⟩
    have sH2 : Same H1 (upd (put2 (put2 H1 a3 (ad "OtherSigns") d3 [(("other" : Str), V.int 0), (("one" : Str), v)]) a4 (ad "OtherRate") d4 [(("other" : Str), v), (("one" : Str), V.int 0)]) l1 (.lst [.ref a3, .ref a4])) := Same.trans (Same.trans (put_same (C := ad "OtherSigns") (fs := [(("other" : Str), V.int 0), (("one" : Str), v)]) ha3 hd3) (put_same (C := ad "OtherRate") (fs := [(("other" : Str), v), (("one" : Str), V.int 0)]) ha4 hd4)) (Same.new hl1)
    have K3 := (((has_put (H := H1) (C := ad "OtherSigns") (fs := [(("other" : Str), V.int 0), (("one" : Str), v)]) n3)).same (put_same (C := ad "OtherRate") (fs := [(("other" : Str), v), (("one" : Str), V.int 0)]) ha4 hd4)).same (Same.new hl1 (o := (.lst [.ref a3, .ref a4])))
    have K4 := ((has_put (H := (put2 H1 a3 (ad "OtherSigns") d3 [(("other" : Str), V.int 0), (("one" : Str), v)])) (C := ad "OtherRate") (fs := [(("other" : Str), v), (("one" : Str), V.int 0)]) n4)).same (Same.new hl1 (o := (.lst [.ref a3, .ref a4])))
    have L1 := (upd_same (H := (put2 (put2 H1 a3 (ad "OtherSigns") d3 [(("other" : Str), V.int 0), (("one" : Str), v)]) a4 (ad "OtherRate") d4 [(("other" : Str), v), (("one" : Str), V.int 0)])) (a := l1) (o := (.lst [.ref a3, .ref a4])))
    replace K1 := K1.same sH2
    replace K2 := K2.same sH2
    replace sH := Same.trans sH sH2
    generalize (upd (put2 (put2 H1 a3 (ad "OtherSigns") d3 [(("other" : Str), V.int 0), (("one" : Str), v)]) a4 (ad "OtherRate") d4 [(("other" : Str), v), (("one" : Str), V.int 0)]) l1 (.lst [.ref a3, .ref a4])) = H2 at sH2 K3 K4 L1 K1 K2 sH ⊢
    obtain ⟨e1, A1, B1⟩ := id K1
    obtain ⟨e2, A2, B2⟩ := id K2
    obtain ⟨e3, A3, B3⟩ := id K3
    refine ⟨.ref a1, rfl, a1, _, e1, _, .int 0, rfl, A1, B1, FC.cUnknownWay.T.ec, FC.fUnknownWay.noA, (by first | rfl | simp [List.lookup]), .ref a1, rfl, a1, _, e1, _, v, rfl, A1, B1, FC.cUnknownWay.T.ec, FC.fUnknownWay.noB, (by first | rfl | simp [List.lookup]), .ref a2, rfl, a2, _, e2, _, v, rfl, A2, B2, FC.cUnknownName.T.ec, FC.fUnknownName.no, (by first | rfl | simp [List.lookup]), .ref l1, rfl, l1, _, 0, .ref a3, rfl, rfl, SqL.of L1, rfl, a3, _, e3, _, v, rfl, A3, B3, FC.cOtherSigns.T.ec, FC.fOtherSigns.noA, (by first | rfl | simp [List.lookup]), .ref l1, rfl, l1, _, 0, .ref a3, rfl, rfl, SqL.of L1, rfl, a3, _, e3, _, .int 0, rfl, A3, B3, FC.cOtherSigns.T.ec, FC.fOtherSigns.noB, (by first | rfl | simp [List.lookup]), (by show 5 ≤ sizeLine; decide), fun l2 hl2 => ?_⟩
    clear A1 B1 A2 B2 A3 B3
    have sH3 : Same H2 (upd H2 l2 (.lst [V.int 0, v, v, v, V.int 0])) := Same.new hl2
    have L2f := (upd_same (H := H2) (a := l2) (o := .lst [V.int 0, v, v, v, V.int 0]))
    replace K1 := K1.same sH3
    replace K2 := K2.same sH3
    replace K3 := K3.same sH3
    replace K4 := K4.same sH3
    replace L1 := sH3 _ _ L1
    replace sH := Same.trans sH sH3
    generalize (upd H2 l2 (.lst [V.int 0, v, v, v, V.int 0])) = H3 at sH3 L2f K1 K2 K3 K4 L1 sH ⊢
    obtain ⟨e4, A4, B4⟩ := id K4
    refine ⟨.ref l2, rfl, .ref l1, rfl, l1, _, 1, .ref a4, rfl, rfl, SqL.of L1, rfl, a4, _, e4, _, .int 0, rfl, A4, B4, FC.cOtherRate.T.ec, FC.fOtherRate.noA, (by first | rfl | simp [List.lookup]), .ref l1, rfl, l1, _, 1, .ref a4, rfl, rfl, SqL.of L1, rfl, a4, _, e4, _, v, rfl, A4, B4, FC.cOtherRate.T.ec, FC.fOtherRate.noB, (by first | rfl | simp [List.lookup]), (by show 2 ≤ sizeLine; decide), fun x1 hx1 => ⟨l2, x1, _, _, rfl, rfl, Same.new hx1 _ _ L2f, upd_same, (by show 7 ≤ sizeLine; decide), fun x2 hx2 => ⟨v, rfl, v, rfl, v, rfl, v, rfl, (by show 7 ≤ sizeLine; decide), fun x3 hx3 => ⟨x2, x3, [V.int 0, v, v, v, V.int 0, V.int 0, v], rfl, rfl, Same.new hx3 _ _ upd_same, upd_same, (List.forall_mem_cons.2 ⟨fz, (List.forall_mem_cons.2 ⟨fv, (List.forall_mem_cons.2 ⟨fv, (List.forall_mem_cons.2 ⟨fv, (List.forall_mem_cons.2 ⟨fz, (List.forall_mem_cons.2 ⟨fz, (List.forall_mem_cons.2 ⟨fv, (fun _ z => nomatch z)⟩)⟩)⟩)⟩)⟩)⟩)⟩), _, rfl, iteF ?_⟩⟩⟩⟩
    clear A4 B4
    have sH4 : Same H3 (upd (upd (upd H3 x1 (.lst [V.int 0, v])) x2 (.lst ([V.int 0, v, v, v, V.int 0] ++ [V.int 0, v]))) x3 (.lst [V.int 0, v, v, v, V.int 0, V.int 0, v])) := Same.trans (Same.trans (Same.new hx1) (Same.new hx2)) (Same.new hx3)
    replace K1 := K1.same sH4
    replace K2 := K2.same sH4
    replace K3 := K3.same sH4
    replace K4 := K4.same sH4
    replace L1 := sH4 _ _ L1
    replace L2f := sH4 _ _ L2f
    replace sH := Same.trans sH sH4
    generalize (upd (upd (upd H3 x1 (.lst [V.int 0, v])) x2 (.lst ([V.int 0, v, v, v, V.int 0] ++ [V.int 0, v]))) x3 (.lst [V.int 0, v, v, v, V.int 0, V.int 0, v])) = H4 at sH4 K1 K2 K3 K4 L1 L2f sH ⊢
    refine ⟨v, rfl, _, rfl, fun a5 d5 ha5 hd5 n5 => ⟨v, rfl, _, rfl, fun a6 d6 ha6 hd6 n6 => ⟨v, rfl, _, rfl, fun a7 d7 ha7 hd7 n7 => ⟨(by show 3 ≤ sizeLine; decide), fun l3 hl3 => ?_⟩⟩⟩⟩
    have sH5 : Same H4 (upd (put2 (put2 (put2 H4 a5 (ad "NoWeights") d5 [(("paper" : Str), v)]) a6 (ad "DoesNotFit") d6 [(("text" : Str), v)]) a7 (ad "LosesSomething") d7 [(("clash" : Str), v)]) l3 (.lst [.ref a5, .ref a6, .ref a7])) := Same.trans (Same.trans (Same.trans (put_same (C := ad "NoWeights") (fs := [(("paper" : Str), v)]) ha5 hd5) (put_same (C := ad "DoesNotFit") (fs := [(("text" : Str), v)]) ha6 hd6)) (put_same (C := ad "LosesSomething") (fs := [(("clash" : Str), v)]) ha7 hd7)) (Same.new hl3 (o := (.lst [.ref a5, .ref a6, .ref a7])))
    have K5 := ((((has_put (H := H4) (C := ad "NoWeights") (fs := [(("paper" : Str), v)]) n5)).same (put_same (C := ad "DoesNotFit") (fs := [(("text" : Str), v)]) ha6 hd6)).same (put_same (C := ad "LosesSomething") (fs := [(("clash" : Str), v)]) ha7 hd7)).same (Same.new hl3 (o := (.lst [.ref a5, .ref a6, .ref a7])))
    have K6 := (((has_put (H := (put2 H4 a5 (ad "NoWeights") d5 [(("paper" : Str), v)])) (C := ad "DoesNotFit") (fs := [(("text" : Str), v)]) n6)).same (put_same (C := ad "LosesSomething") (fs := [(("clash" : Str), v)]) ha7 hd7)).same (Same.new hl3 (o := (.lst [.ref a5, .ref a6, .ref a7])))
    have K7 := ((has_put (H := (put2 (put2 H4 a5 (ad "NoWeights") d5 [(("paper" : Str), v)]) a6 (ad "DoesNotFit") d6 [(("text" : Str), v)])) (C := ad "LosesSomething") (fs := [(("clash" : Str), v)]) n7)).same (Same.new hl3 (o := (.lst [.ref a5, .ref a6, .ref a7])))
    have L3 := (upd_same (H := (put2 (put2 (put2 H4 a5 (ad "NoWeights") d5 [(("paper" : Str), v)]) a6 (ad "DoesNotFit") d6 [(("text" : Str), v)]) a7 (ad "LosesSomething") d7 [(("clash" : Str), v)])) (a := l3) (o := (.lst [.ref a5, .ref a6, .ref a7])))
    replace K1 := K1.same sH5
    replace K2 := K2.same sH5
    replace K3 := K3.same sH5
    replace K4 := K4.same sH5
    replace L1 := sH5 _ _ L1
    replace L2f := sH5 _ _ L2f
    replace sH := Same.trans sH sH5
    generalize (upd (put2 (put2 (put2 H4 a5 (ad "NoWeights") d5 [(("paper" : Str), v)]) a6 (ad "DoesNotFit") d6 [(("text" : Str), v)]) a7 (ad "LosesSomething") d7 [(("clash" : Str), v)]) l3 (.lst [.ref a5, .ref a6, .ref a7])) = H5 at sH5 K5 K6 K7 L3 K1 K2 K3 K4 L1 L2f sH ⊢
    refine ⟨v, rfl, _, rfl, fun a8 d8 ha8 hd8 n8 => ⟨v, rfl, _, rfl, fun a9 d9 ha9 hd9 n9 => ⟨v, rfl, _, rfl, fun a10 d10 ha10 hd10 n10 => ⟨(by show 3 ≤ sizeLine; decide), fun l4 hl4 => ?_⟩⟩⟩⟩
    have sH6 : Same H5 (upd (put2 (put2 (put2 H5 a8 (ad "Lost") d8 [(("position" : Str), v)]) a9 (ad "NameTaken") d9 [(("name" : Str), v)]) a10 (ad "CommandFailed") d10 [(("position" : Str), v)]) l4 (.lst [.ref a8, .ref a9, .ref a10])) := Same.trans (Same.trans (Same.trans (put_same (C := ad "Lost") (fs := [(("position" : Str), v)]) ha8 hd8) (put_same (C := ad "NameTaken") (fs := [(("name" : Str), v)]) ha9 hd9)) (put_same (C := ad "CommandFailed") (fs := [(("position" : Str), v)]) ha10 hd10)) (Same.new hl4 (o := (.lst [.ref a8, .ref a9, .ref a10])))
    have K8 := ((((has_put (H := H5) (C := ad "Lost") (fs := [(("position" : Str), v)]) n8)).same (put_same (C := ad "NameTaken") (fs := [(("name" : Str), v)]) ha9 hd9)).same (put_same (C := ad "CommandFailed") (fs := [(("position" : Str), v)]) ha10 hd10)).same (Same.new hl4 (o := (.lst [.ref a8, .ref a9, .ref a10])))
    have K9 := (((has_put (H := (put2 H5 a8 (ad "Lost") d8 [(("position" : Str), v)])) (C := ad "NameTaken") (fs := [(("name" : Str), v)]) n9)).same (put_same (C := ad "CommandFailed") (fs := [(("position" : Str), v)]) ha10 hd10)).same (Same.new hl4 (o := (.lst [.ref a8, .ref a9, .ref a10])))
    have K10 := ((has_put (H := (put2 (put2 H5 a8 (ad "Lost") d8 [(("position" : Str), v)]) a9 (ad "NameTaken") d9 [(("name" : Str), v)])) (C := ad "CommandFailed") (fs := [(("position" : Str), v)]) n10)).same (Same.new hl4 (o := (.lst [.ref a8, .ref a9, .ref a10])))
    have L4 := (upd_same (H := (put2 (put2 (put2 H5 a8 (ad "Lost") d8 [(("position" : Str), v)]) a9 (ad "NameTaken") d9 [(("name" : Str), v)]) a10 (ad "CommandFailed") d10 [(("position" : Str), v)])) (a := l4) (o := (.lst [.ref a8, .ref a9, .ref a10])))
    replace K1 := K1.same sH6
    replace K2 := K2.same sH6
    replace K3 := K3.same sH6
    replace K4 := K4.same sH6
    replace L1 := sH6 _ _ L1
    replace L2f := sH6 _ _ L2f
    replace K5 := K5.same sH6
    replace K6 := K6.same sH6
    replace K7 := K7.same sH6
    replace L3 := sH6 _ _ L3
    replace sH := Same.trans sH sH6
    generalize (upd (put2 (put2 (put2 H5 a8 (ad "Lost") d8 [(("position" : Str), v)]) a9 (ad "NameTaken") d9 [(("name" : Str), v)]) a10 (ad "CommandFailed") d10 [(("position" : Str), v)]) l4 (.lst [.ref a8, .ref a9, .ref a10])) = H6 at sH6 K8 K9 K10 L4 K1 K2 K3 K4 L1 L2f K5 K6 K7 L3 sH ⊢
    obtain ⟨e5, A5, B5⟩ := id K5
    obtain ⟨e6, A6, B6⟩ := id K6
    obtain ⟨e7, A7, B7⟩ := id K7
    refine ⟨.ref l3, rfl, l3, _, 0, .ref a5, rfl, rfl, SqL.of L3, rfl, a5, _, e5, _, v, rfl, A5, B5, FC.cNoWeights.T.ec, FC.fNoWeights.no, (by first | rfl | simp [List.lookup]), .ref l3, rfl, l3, _, 1, .ref a6, rfl, rfl, SqL.of L3, rfl, a6, _, e6, _, v, rfl, A6, B6, FC.cDoesNotFit.T.ec, FC.fDoesNotFit.no, (by first | rfl | simp [List.lookup]), .ref l3, rfl, l3, _, 2, .ref a7, rfl, rfl, SqL.of L3, rfl, a7, _, e7, _, v, rfl, A7, B7, FC.cLosesSomething.T.ec, FC.fLosesSomething.no, (by first | rfl | simp [List.lookup]), (by show 3 ≤ sizeLine; decide), fun y1 hy1 => ⟨v, rfl, (by show 1 ≤ sizeLine; decide), fun y2 hy2 => ⟨y2, 3, [v], rfl, rfl, upd_same, by decide, by decide, (by show 3 ≤ sizeLine; decide), fun y3 hy3 => ⟨y1, y3, [v, v, v], rfl, rfl, Same.new hy3 _ _ (Same.new hy2 _ _ upd_same), upd_same, (List.forall_mem_cons.2 ⟨fv, (List.forall_mem_cons.2 ⟨fv, (List.forall_mem_cons.2 ⟨fv, (fun _ z => nomatch z)⟩)⟩)⟩), _, rfl, iteF ?_⟩⟩⟩⟩
    clear A5 B5 A6 B6 A7 B7
    rw [show (List.replicate (Int.toNat 3) [v]).flatten = [v, v, v] from rfl]
    have sH7 : Same H6 (upd (upd (upd H6 y1 (.lst [v, v, v])) y2 (.lst [v])) y3 (.lst [v, v, v])) := Same.trans (Same.trans (Same.new hy1) (Same.new hy2)) (Same.new hy3)
    replace K1 := K1.same sH7
    replace K2 := K2.same sH7
    replace K3 := K3.same sH7
    replace K4 := K4.same sH7
    replace L1 := sH7 _ _ L1
    replace L2f := sH7 _ _ L2f
    replace K5 := K5.same sH7
    replace K6 := K6.same sH7
    replace K7 := K7.same sH7
    replace L3 := sH7 _ _ L3
    replace K8 := K8.same sH7
    replace K9 := K9.same sH7
    replace K10 := K10.same sH7
    replace L4 := sH7 _ _ L4
    replace sH := Same.trans sH sH7
    generalize (upd (upd (upd H6 y1 (.lst [v, v, v])) y2 (.lst [v])) y3 (.lst [v, v, v])) = H7 at sH7 K1 K2 K3 K4 L1 L2f K5 K6 K7 L3 K8 K9 K10 L4 sH ⊢
    obtain ⟨e8, A8, B8⟩ := id K8
    obtain ⟨e9, A9, B9⟩ := id K9
    obtain ⟨e10, A10, B10⟩ := id K10
    refine ⟨.ref l4, rfl, l4, _, 0, .ref a8, rfl, rfl, SqL.of L4, rfl, a8, _, e8, _, v, rfl, A8, B8, FC.cLost.T.ec, FC.fLost.no, (by first | rfl | simp [List.lookup]), .ref l4, rfl, l4, _, 1, .ref a9, rfl, rfl, SqL.of L4, rfl, a9, _, e9, _, v, rfl, A9, B9, FC.cNameTaken.T.ec, FC.fNameTaken.no, (by first | rfl | simp [List.lookup]), .ref l4, rfl, l4, _, 2, .ref a10, rfl, rfl, SqL.of L4, rfl, a10, _, e10, _, v, rfl, A10, B10, FC.cCommandFailed.T.ec, FC.fCommandFailed.no, (by first | rfl | simp [List.lookup]), (by show 3 ≤ sizeLine; decide), fun z1 hz1 => ⟨v, rfl, (by show 1 ≤ sizeLine; decide), fun z2 hz2 => ⟨z2, 3, [v], rfl, rfl, upd_same, by decide, by decide, (by show 3 ≤ sizeLine; decide), fun z3 hz3 => ⟨z1, z3, [v, v, v], rfl, rfl, Same.new hz3 _ _ (Same.new hz2 _ _ upd_same), upd_same, (List.forall_mem_cons.2 ⟨fv, (List.forall_mem_cons.2 ⟨fv, (List.forall_mem_cons.2 ⟨fv, (fun _ z => nomatch z)⟩)⟩)⟩), _, rfl, iteF ?_⟩⟩⟩⟩
    clear A8 B8 A9 B9 A10 B10
    rw [show (List.replicate (Int.toNat 3) [v]).flatten = [v, v, v] from rfl]
    have sH8 : Same H7 (upd (upd (upd H7 z1 (.lst [v, v, v])) z2 (.lst [v])) z3 (.lst [v, v, v])) := Same.trans (Same.trans (Same.new hz1) (Same.new hz2)) (Same.new hz3)
    replace K1 := K1.same sH8
    replace K2 := K2.same sH8
    replace K3 := K3.same sH8
    replace K4 := K4.same sH8
    replace L1 := sH8 _ _ L1
    replace L2f := sH8 _ _ L2f
    replace K5 := K5.same sH8
    replace K6 := K6.same sH8
    replace K7 := K7.same sH8
    replace L3 := sH8 _ _ L3
    replace K8 := K8.same sH8
    replace K9 := K9.same sH8
    replace K10 := K10.same sH8
    replace L4 := sH8 _ _ L4
    replace sH := Same.trans sH sH8
    generalize (upd (upd (upd H7 z1 (.lst [v, v, v])) z2 (.lst [v])) z3 (.lst [v, v, v])) = H8 at sH8 K1 K2 K3 K4 L1 L2f K5 K6 K7 L3 K8 K9 K10 L4 sH ⊢
    refine ⟨v, rfl, _, _, rfl, fun a11 d11 ha11 hd11 n11 => ?_⟩
    have sH9 : Same H8 (put2 H8 a11 (ad "TooMany") d11 [(("limit" : Str), v), (("what" : Str), V.int 0)]) := (put_same (C := ad "TooMany") (fs := [(("limit" : Str), v), (("what" : Str), V.int 0)]) ha11 hd11)
    have K11 := (has_put (H := H8) (C := ad "TooMany") (fs := [(("limit" : Str), v), (("what" : Str), V.int 0)]) n11)
    replace K1 := K1.same sH9
    replace K2 := K2.same sH9
    replace K3 := K3.same sH9
    replace K4 := K4.same sH9
    replace L1 := sH9 _ _ L1
    replace L2f := sH9 _ _ L2f
    replace K5 := K5.same sH9
    replace K6 := K6.same sH9
    replace K7 := K7.same sH9
    replace L3 := sH9 _ _ L3
    replace K8 := K8.same sH9
    replace K9 := K9.same sH9
    replace K10 := K10.same sH9
    replace L4 := sH9 _ _ L4
    replace sH := Same.trans sH sH9
    generalize (put2 H8 a11 (ad "TooMany") d11 [(("limit" : Str), v), (("what" : Str), V.int 0)]) = H9 at sH9 K11 K1 K2 K3 K4 L1 L2f K5 K6 K7 L3 K8 K9 K10 L4 sH ⊢
    obtain ⟨e11, A11, B11⟩ := id K11
    obtain ⟨dt, st11⟩ := K11.stands
    refine ⟨.ref a11, rfl, a11, _, e11, _, .int 0, rfl, A11, B11, FC.cTooMany.T.ec, FC.fTooMany.noA, (by first | rfl | simp [List.lookup]), .ref a11, rfl, a11, _, e11, _, v, rfl, A11, B11, FC.cTooMany.T.ec, FC.fTooMany.noB, (by first | rfl | simp [List.lookup]), (by show 2 ≤ sizeLine; decide), fun u1 hu1 => ⟨v, rfl, (by show 2 ≤ sizeLine; decide), fun u2 hu2 => ⟨u1, u2, [V.int 0, v], rfl, rfl, Same.new hu2 _ _ upd_same, upd_same, (List.forall_mem_cons.2 ⟨fz, (List.forall_mem_cons.2 ⟨fv, (fun _ z => nomatch z)⟩)⟩), _, rfl, iteF ⟨.ref a11, rfl, (by show 3 ≤ sizeLine; decide), fun u3 hu3 => ⟨a11, _, dt, u3, _, _, false, rfl, ((st11.same (Same.new hu1)).same (Same.new hu2)).same (Same.new hu3), FC.cTooMany.T.ec, upd_same, .cons (.own _) (.cons (.own _) (.cons (.ty _) .nil)), FC.great, _, rfl, iteF ?_⟩⟩⟩⟩⟩
    clear A11 B11
    clear st11
    have sH10 : Same H9 (upd (upd (upd H9 u1 (.lst [V.int 0, v])) u2 (.lst [V.int 0, v])) u3 (.tup [.ref (ad "BarredError"), .ref (ad "StateError"), .ty "OverflowError"])) := Same.trans (Same.trans (Same.new hu1) (Same.new hu2)) (Same.new hu3)
    replace K1 := K1.same sH10
    replace K2 := K2.same sH10
    replace K3 := K3.same sH10
    replace K4 := K4.same sH10
    replace L1 := sH10 _ _ L1
    replace L2f := sH10 _ _ L2f
    replace K5 := K5.same sH10
    replace K6 := K6.same sH10
    replace K7 := K7.same sH10
    replace L3 := sH10 _ _ L3
    replace K8 := K8.same sH10
    replace K9 := K9.same sH10
    replace K10 := K10.same sH10
    replace L4 := sH10 _ _ L4
    replace K11 := K11.same sH10
    replace sH := Same.trans sH sH10
    generalize (upd (upd (upd H9 u1 (.lst [V.int 0, v])) u2 (.lst [V.int 0, v])) u3 (.tup [.ref (ad "BarredError"), .ref (ad "StateError"), .ty "OverflowError"])) = H10 at sH10 K1 K2 K3 K4 L1 L2f K5 K6 K7 L3 K8 K9 K10 L4 K11 sH ⊢
    obtain ⟨g1, st1⟩ := K1.stands
    obtain ⟨g2, st2⟩ := K2.stands
    obtain ⟨g3, st3⟩ := K3.stands
    obtain ⟨g4, st4⟩ := K4.stands
    obtain ⟨g5, st5⟩ := K5.stands
    obtain ⟨g6, st6⟩ := K6.stands
    obtain ⟨g7, st7⟩ := K7.stands
    obtain ⟨g8, st8⟩ := K8.stands
    obtain ⟨g9, st9⟩ := K9.stands
    obtain ⟨g10, st10⟩ := K10.stands
    obtain ⟨g11, st11⟩ := K11.stands
    clear K1 K2 K3 K4 K5 K6 K7 K8 K9 K10 K11
    refine ⟨.ref l1, rfl, .ref l3, rfl, l1, l3, _, _, rfl, rfl, L1, L3, (by show 5 ≤ sizeLine; decide), fun w1 hw1 => ⟨.ref l4, rfl, w1, l4, _, _, rfl, rfl, upd_same, Same.new hw1 _ _ L4, (by show 8 ≤ sizeLine; decide), fun w2 hw2 => fun b1 hb1 b2 hb2 b3 hb3 => ⟨(by show 3 ≤ sizeLine; decide), fun w3 hw3 => ⟨w2, w3, _, _, rfl, rfl, Same.new hw3 _ _ (Same.new hb3 _ _ (Same.new hb2 _ _ (Same.new hb1 _ _ upd_same))), upd_same, (by show 11 ≤ sizeLine; decide), fun w4 hw4 => ?_⟩⟩⟩⟩
    have t1 : Stands (upd (upd (upd H10 w1 (.lst ([V.ref a3, V.ref a4] ++ [V.ref a5, V.ref a6, V.ref a7]))) w2 (.lst (([V.ref a3, V.ref a4] ++ [V.ref a5, V.ref a6, V.ref a7]) ++ [V.ref a8, V.ref a9, V.ref a10]))) b1 (exo b1 (ad "NothingLeft") none)) b1 (ad "NothingLeft") none := st_bare
    have t2 : Stands (upd (upd (upd (upd H10 w1 (.lst ([V.ref a3, V.ref a4] ++ [V.ref a5, V.ref a6, V.ref a7]))) w2 (.lst (([V.ref a3, V.ref a4] ++ [V.ref a5, V.ref a6, V.ref a7]) ++ [V.ref a8, V.ref a9, V.ref a10]))) b1 (exo b1 (ad "NothingLeft") none)) b2 (exo b2 (ad "OtherMedium") none)) b2 (ad "OtherMedium") none := st_bare
    have t3 : Stands (upd (upd (upd (upd (upd H10 w1 (.lst ([V.ref a3, V.ref a4] ++ [V.ref a5, V.ref a6, V.ref a7]))) w2 (.lst (([V.ref a3, V.ref a4] ++ [V.ref a5, V.ref a6, V.ref a7]) ++ [V.ref a8, V.ref a9, V.ref a10]))) b1 (exo b1 (ad "NothingLeft") none)) b2 (exo b2 (ad "OtherMedium") none)) b3 (exo b3 (ad "NoLookAhead") none)) b3 (ad "NoLookAhead") none := st_bare
    replace t1 : Stands (upd (upd (upd (upd (upd (upd (upd H10 w1 (.lst ([V.ref a3, V.ref a4] ++ [V.ref a5, V.ref a6, V.ref a7]))) w2 (.lst (([V.ref a3, V.ref a4] ++ [V.ref a5, V.ref a6, V.ref a7]) ++ [V.ref a8, V.ref a9, V.ref a10]))) b1 (exo b1 (ad "NothingLeft") none)) b2 (exo b2 (ad "OtherMedium") none)) b3 (exo b3 (ad "NoLookAhead") none)) w3 (.lst [V.ref b1, V.ref b2, V.ref b3])) w4 (.lst ((([V.ref a3, V.ref a4] ++ [V.ref a5, V.ref a6, V.ref a7]) ++ [V.ref a8, V.ref a9, V.ref a10]) ++ [V.ref b1, V.ref b2, V.ref b3]))) b1 (ad "NothingLeft") none := t1.same (Same.trans (Same.trans (Same.trans (Same.new hb2) (Same.new hb3)) (Same.new hw3)) (Same.new hw4))
    replace t2 : Stands (upd (upd (upd (upd (upd (upd (upd H10 w1 (.lst ([V.ref a3, V.ref a4] ++ [V.ref a5, V.ref a6, V.ref a7]))) w2 (.lst (([V.ref a3, V.ref a4] ++ [V.ref a5, V.ref a6, V.ref a7]) ++ [V.ref a8, V.ref a9, V.ref a10]))) b1 (exo b1 (ad "NothingLeft") none)) b2 (exo b2 (ad "OtherMedium") none)) b3 (exo b3 (ad "NoLookAhead") none)) w3 (.lst [V.ref b1, V.ref b2, V.ref b3])) w4 (.lst ((([V.ref a3, V.ref a4] ++ [V.ref a5, V.ref a6, V.ref a7]) ++ [V.ref a8, V.ref a9, V.ref a10]) ++ [V.ref b1, V.ref b2, V.ref b3]))) b2 (ad "OtherMedium") none := t2.same (Same.trans (Same.trans (Same.new hb3) (Same.new hw3)) (Same.new hw4))
    replace t3 : Stands (upd (upd (upd (upd (upd (upd (upd H10 w1 (.lst ([V.ref a3, V.ref a4] ++ [V.ref a5, V.ref a6, V.ref a7]))) w2 (.lst (([V.ref a3, V.ref a4] ++ [V.ref a5, V.ref a6, V.ref a7]) ++ [V.ref a8, V.ref a9, V.ref a10]))) b1 (exo b1 (ad "NothingLeft") none)) b2 (exo b2 (ad "OtherMedium") none)) b3 (exo b3 (ad "NoLookAhead") none)) w3 (.lst [V.ref b1, V.ref b2, V.ref b3])) w4 (.lst ((([V.ref a3, V.ref a4] ++ [V.ref a5, V.ref a6, V.ref a7]) ++ [V.ref a8, V.ref a9, V.ref a10]) ++ [V.ref b1, V.ref b2, V.ref b3]))) b3 (ad "NoLookAhead") none := t3.same (Same.trans (Same.new hw3) (Same.new hw4))
    have sH11 : Same H10 (upd (upd (upd (upd (upd (upd (upd H10 w1 (.lst ([V.ref a3, V.ref a4] ++ [V.ref a5, V.ref a6, V.ref a7]))) w2 (.lst (([V.ref a3, V.ref a4] ++ [V.ref a5, V.ref a6, V.ref a7]) ++ [V.ref a8, V.ref a9, V.ref a10]))) b1 (exo b1 (ad "NothingLeft") none)) b2 (exo b2 (ad "OtherMedium") none)) b3 (exo b3 (ad "NoLookAhead") none)) w3 (.lst [V.ref b1, V.ref b2, V.ref b3])) w4 (.lst ((([V.ref a3, V.ref a4] ++ [V.ref a5, V.ref a6, V.ref a7]) ++ [V.ref a8, V.ref a9, V.ref a10]) ++ [V.ref b1, V.ref b2, V.ref b3]))) := (Same.trans (Same.trans (Same.trans (Same.trans (Same.trans (Same.trans (Same.new hw1) (Same.new hw2)) (Same.new hb1)) (Same.new hb2)) (Same.new hb3)) (Same.new hw3)) (Same.new hw4))
    have u1 := t1
    have u2 := t2
    have u3 := t3
    have LF := (upd_same (H := (upd (upd (upd (upd (upd (upd H10 w1 (.lst ([V.ref a3, V.ref a4] ++ [V.ref a5, V.ref a6, V.ref a7]))) w2 (.lst (([V.ref a3, V.ref a4] ++ [V.ref a5, V.ref a6, V.ref a7]) ++ [V.ref a8, V.ref a9, V.ref a10]))) b1 (exo b1 (ad "NothingLeft") none)) b2 (exo b2 (ad "OtherMedium") none)) b3 (exo b3 (ad "NoLookAhead") none)) w3 (.lst [V.ref b1, V.ref b2, V.ref b3]))) (a := w4) (o := .lst ((([V.ref a3, V.ref a4] ++ [V.ref a5, V.ref a6, V.ref a7]) ++ [V.ref a8, V.ref a9, V.ref a10]) ++ [V.ref b1, V.ref b2, V.ref b3])))
    replace L1 := sH11 _ _ L1
    replace L2f := sH11 _ _ L2f
    replace L3 := sH11 _ _ L3
    replace L4 := sH11 _ _ L4
    replace st1 := st1.same sH11
    replace st2 := st2.same sH11
    replace st3 := st3.same sH11
    replace st4 := st4.same sH11
    replace st5 := st5.same sH11
    replace st6 := st6.same sH11
    replace st7 := st7.same sH11
    replace st8 := st8.same sH11
    replace st9 := st9.same sH11
    replace st10 := st10.same sH11
    replace st11 := st11.same sH11
    replace sH := Same.trans sH sH11
    generalize (upd (upd (upd (upd (upd (upd (upd H10 w1 (.lst ([V.ref a3, V.ref a4] ++ [V.ref a5, V.ref a6, V.ref a7]))) w2 (.lst (([V.ref a3, V.ref a4] ++ [V.ref a5, V.ref a6, V.ref a7]) ++ [V.ref a8, V.ref a9, V.ref a10]))) b1 (exo b1 (ad "NothingLeft") none)) b2 (exo b2 (ad "OtherMedium") none)) b3 (exo b3 (ad "NoLookAhead") none)) w3 (.lst [V.ref b1, V.ref b2, V.ref b3])) w4 (.lst ((([V.ref a3, V.ref a4] ++ [V.ref a5, V.ref a6, V.ref a7]) ++ [V.ref a8, V.ref a9, V.ref a10]) ++ [V.ref b1, V.ref b2, V.ref b3]))) = H11 at sH11 u1 u2 u3 LF L1 L2f L3 L4 st1 st2 st3 st4 st5 st6 st7 st8 st9 st10 st11 sH ⊢
    clear t1 t2 t3
    refine ⟨.ref w4, rfl, fun c1 hc1 c2 hc2 c3 hc3 => ⟨(by show 3 ≤ sizeLine; decide), fun w5 hw5 => ⟨w4, w5, _, _, rfl, rfl, Same.new hw5 _ _ (Same.new hc3 _ _ (Same.new hc2 _ _ (Same.new hc1 _ _ LF))), upd_same, (by show 14 ≤ sizeLine; decide), fun w6 hw6 => ?_⟩⟩⟩
    have t1 : Stands (upd H11 c1 (exo c1 (ad "NoWindow") none)) c1 (ad "NoWindow") none := st_bare
    have t2 : Stands (upd (upd H11 c1 (exo c1 (ad "NoWindow") none)) c2 (exo c2 (ad "NotEven") none)) c2 (ad "NotEven") none := st_bare
    have t3 : Stands (upd (upd (upd H11 c1 (exo c1 (ad "NoWindow") none)) c2 (exo c2 (ad "NotEven") none)) c3 (exo c3 (ad "NothingToUndo") none)) c3 (ad "NothingToUndo") none := st_bare
    replace t1 : Stands (upd (upd (upd (upd (upd H11 c1 (exo c1 (ad "NoWindow") none)) c2 (exo c2 (ad "NotEven") none)) c3 (exo c3 (ad "NothingToUndo") none)) w5 (.lst [V.ref c1, V.ref c2, V.ref c3])) w6 (.lst (((([V.ref a3, V.ref a4] ++ [V.ref a5, V.ref a6, V.ref a7]) ++ [V.ref a8, V.ref a9, V.ref a10]) ++ [V.ref b1, V.ref b2, V.ref b3]) ++ [V.ref c1, V.ref c2, V.ref c3]))) c1 (ad "NoWindow") none := t1.same (Same.trans (Same.trans (Same.trans (Same.new hc2) (Same.new hc3)) (Same.new hw5)) (Same.new hw6))
    replace t2 : Stands (upd (upd (upd (upd (upd H11 c1 (exo c1 (ad "NoWindow") none)) c2 (exo c2 (ad "NotEven") none)) c3 (exo c3 (ad "NothingToUndo") none)) w5 (.lst [V.ref c1, V.ref c2, V.ref c3])) w6 (.lst (((([V.ref a3, V.ref a4] ++ [V.ref a5, V.ref a6, V.ref a7]) ++ [V.ref a8, V.ref a9, V.ref a10]) ++ [V.ref b1, V.ref b2, V.ref b3]) ++ [V.ref c1, V.ref c2, V.ref c3]))) c2 (ad "NotEven") none := t2.same (Same.trans (Same.trans (Same.new hc3) (Same.new hw5)) (Same.new hw6))
    replace t3 : Stands (upd (upd (upd (upd (upd H11 c1 (exo c1 (ad "NoWindow") none)) c2 (exo c2 (ad "NotEven") none)) c3 (exo c3 (ad "NothingToUndo") none)) w5 (.lst [V.ref c1, V.ref c2, V.ref c3])) w6 (.lst (((([V.ref a3, V.ref a4] ++ [V.ref a5, V.ref a6, V.ref a7]) ++ [V.ref a8, V.ref a9, V.ref a10]) ++ [V.ref b1, V.ref b2, V.ref b3]) ++ [V.ref c1, V.ref c2, V.ref c3]))) c3 (ad "NothingToUndo") none := t3.same (Same.trans (Same.new hw5) (Same.new hw6))
    have sH12 : Same H11 (upd (upd (upd (upd (upd H11 c1 (exo c1 (ad "NoWindow") none)) c2 (exo c2 (ad "NotEven") none)) c3 (exo c3 (ad "NothingToUndo") none)) w5 (.lst [V.ref c1, V.ref c2, V.ref c3])) w6 (.lst (((([V.ref a3, V.ref a4] ++ [V.ref a5, V.ref a6, V.ref a7]) ++ [V.ref a8, V.ref a9, V.ref a10]) ++ [V.ref b1, V.ref b2, V.ref b3]) ++ [V.ref c1, V.ref c2, V.ref c3]))) := (Same.trans (Same.trans (Same.trans (Same.trans (Same.new hc1) (Same.new hc2)) (Same.new hc3)) (Same.new hw5)) (Same.new hw6))
    have v1 := t1
    have v2 := t2
    have v3 := t3
    have LG := (upd_same (H := (upd (upd (upd (upd H11 c1 (exo c1 (ad "NoWindow") none)) c2 (exo c2 (ad "NotEven") none)) c3 (exo c3 (ad "NothingToUndo") none)) w5 (.lst [V.ref c1, V.ref c2, V.ref c3]))) (a := w6) (o := .lst (((([V.ref a3, V.ref a4] ++ [V.ref a5, V.ref a6, V.ref a7]) ++ [V.ref a8, V.ref a9, V.ref a10]) ++ [V.ref b1, V.ref b2, V.ref b3]) ++ [V.ref c1, V.ref c2, V.ref c3])))
    replace L1 := sH12 _ _ L1
    replace L2f := sH12 _ _ L2f
    replace L3 := sH12 _ _ L3
    replace L4 := sH12 _ _ L4
    replace st1 := st1.same sH12
    replace st2 := st2.same sH12
    replace st3 := st3.same sH12
    replace st4 := st4.same sH12
    replace st5 := st5.same sH12
    replace st6 := st6.same sH12
    replace st7 := st7.same sH12
    replace st8 := st8.same sH12
    replace st9 := st9.same sH12
    replace st10 := st10.same sH12
    replace st11 := st11.same sH12
    replace u1 := u1.same sH12
    replace u2 := u2.same sH12
    replace u3 := u3.same sH12
    replace LF := sH12 _ _ LF
    replace sH := Same.trans sH sH12
    generalize (upd (upd (upd (upd (upd H11 c1 (exo c1 (ad "NoWindow") none)) c2 (exo c2 (ad "NotEven") none)) c3 (exo c3 (ad "NothingToUndo") none)) w5 (.lst [V.ref c1, V.ref c2, V.ref c3])) w6 (.lst (((([V.ref a3, V.ref a4] ++ [V.ref a5, V.ref a6, V.ref a7]) ++ [V.ref a8, V.ref a9, V.ref a10]) ++ [V.ref b1, V.ref b2, V.ref b3]) ++ [V.ref c1, V.ref c2, V.ref c3]))) = H12 at sH12 v1 v2 v3 LG L1 L2f L3 L4 st1 st2 st3 st4 st5 st6 st7 st8 st9 st10 st11 u1 u2 u3 LF sH ⊢
    clear t1 t2 t3
    have fam : ∀ x ∈ ((([V.ref a3, V.ref a4] ++ [V.ref a5, V.ref a6, V.ref a7]) ++ [V.ref a8, V.ref a9, V.ref a10]) ++ [V.ref b1, V.ref b2, V.ref b3]) ++ [V.ref c1, V.ref c2, V.ref c3], Fam K (GSt K ad) H12 x := (List.forall_mem_cons.2 ⟨⟨a3, _, _, rfl, st3, FC.cOtherSigns.T.ec, FC.sOtherSigns⟩, (List.forall_mem_cons.2 ⟨⟨a4, _, _, rfl, st4, FC.cOtherRate.T.ec, FC.sOtherRate⟩, (List.forall_mem_cons.2 ⟨⟨a5, _, _, rfl, st5, FC.cNoWeights.T.ec, FC.sNoWeights⟩, (List.forall_mem_cons.2 ⟨⟨a6, _, _, rfl, st6, FC.cDoesNotFit.T.ec, FC.sDoesNotFit⟩, (List.forall_mem_cons.2 ⟨⟨a7, _, _, rfl, st7, FC.cLosesSomething.T.ec, FC.sLosesSomething⟩, (List.forall_mem_cons.2 ⟨⟨a8, _, _, rfl, st8, FC.cLost.T.ec, FC.sLost⟩, (List.forall_mem_cons.2 ⟨⟨a9, _, _, rfl, st9, FC.cNameTaken.T.ec, FC.sNameTaken⟩, (List.forall_mem_cons.2 ⟨⟨a10, _, _, rfl, st10, FC.cCommandFailed.T.ec, FC.sCommandFailed⟩, (List.forall_mem_cons.2 ⟨⟨b1, _, _, rfl, u1, FC.eNothingLeft.ec, FC.sNothingLeft⟩, (List.forall_mem_cons.2 ⟨⟨b2, _, _, rfl, u2, FC.eOtherMedium.ec, FC.sOtherMedium⟩, (List.forall_mem_cons.2 ⟨⟨b3, _, _, rfl, u3, FC.eNoLookAhead.ec, FC.sNoLookAhead⟩, (List.forall_mem_cons.2 ⟨⟨c1, _, _, rfl, v1, FC.eNoWindow.ec, FC.sNoWindow⟩, (List.forall_mem_cons.2 ⟨⟨c2, _, _, rfl, v2, FC.eNotEven.ec, FC.sNotEven⟩, (List.forall_mem_cons.2 ⟨⟨c3, _, _, rfl, v3, FC.eNothingToUndo.ec, FC.sNothingToUndo⟩, (fun _ z => nomatch z)⟩)⟩)⟩)⟩)⟩)⟩)⟩)⟩)⟩)⟩)⟩)⟩)⟩)⟩)
    generalize eL : ((([V.ref a3, V.ref a4] ++ [V.ref a5, V.ref a6, V.ref a7]) ++ [V.ref a8, V.ref a9, V.ref a10]) ++ [V.ref b1, V.ref b2, V.ref b3]) ++ [V.ref c1, V.ref c2, V.ref c3] = L at LG fam ⊢
    have flen : L.length ≤ 1000 := by rw [← eL]; show 14 ≤ 1000; decide
    clear eL
    have two : ∀ x ∈ [V.ref a1, V.ref a2], Fam K (GMi K ad) H12 x := (List.forall_mem_cons.2 ⟨⟨a1, _, _, rfl, st1, FC.cUnknownWay.T.ec, FC.sUnknownWay⟩, (List.forall_mem_cons.2 ⟨⟨a2, _, _, rfl, st2, FC.cUnknownName.T.ec, FC.sUnknownName⟩, (fun _ z => nomatch z)⟩)⟩)
    refine ⟨.ref w6, rfl, w6, rfl, ⟨_, SqL.of LG⟩, fun D1 hD1 => ?_⟩
    refine lc_bools false hD1 LG flen (fun _ => rfl) (fun x hx H4 s4 Q q => ?_) (fun H13 s13 eD1 => ?_)
    · obtain ⟨e, C, dd, rfl, hs, ec, g⟩ := fam x hx
      exact ⟨.ref e, rfl, (by show 4 ≤ sizeLine; decide), fun t ht => ⟨e, C, dd, t, _, _, false, rfl, (hs.same s4).same (Same.new ht), ec, upd_same, .cons (.own _) (.cons (.own _) (.cons (.own _) (.cons (.ty _) .nil))), g.far, q _ (Same.new ht)⟩⟩
    refine ⟨D1, _, rfl, SqL.of eD1, _, rfl, ?_⟩
    rw [show (List.replicate L.length false).any id = false by simp]
    refine iteF ⟨.ref w6, rfl, w6, rfl, ⟨_, SqL.of (s13 _ _ LG)⟩, fun D2 hD2 => ?_⟩
    refine lc_bools true hD2 (s13 _ _ LG) flen (fun _ => rfl) (fun x hx H4 s4 Q q => ?_) (fun H14 s14 eD2 => ?_)
    · obtain ⟨e, C, dd, rfl, hs, ec, g⟩ := fam x hx
      have hs1 := (hs.same s13).same s4
      exact ⟨.ref e, rfl, e, C, dd, .ref (ad "StateError"), _, true, rfl, hs1, ec, .own _, g.st, true, rfl, iteT ⟨.ref e, rfl, e, C, dd, .ty "RuntimeError", _, true, rfl, hs1, ec, .ty _, g.rt, q _ (fun _ _ z => z)⟩⟩
    refine ⟨D2, _, rfl, SqL.of eD2, _, rfl, ?_⟩
    rw [show (List.replicate L.length true).all id = true by simp]
    have s1314 := Same.trans s13 s14
    refine iteF ⟨.ref a1, rfl, .ref a2, rfl, (by show 2 ≤ sizeLine; decide), fun p1 hp1 => ⟨p1, rfl, ⟨_, SqL.of upd_same⟩, fun D3 hD3 => ?_⟩⟩
    refine lc_bools (xs := [V.ref a1, V.ref a2]) false hD3 upd_same (by show 2 ≤ 1000; decide) (fun _ => rfl) (fun x hx H4 s4 Q q => ?_) (fun H15 s15 eD3 => ?_)
    · obtain ⟨e, C, dd, rfl, hs, ec, g⟩ := two x hx
      have hs1 := ((hs.same s1314).same (Same.new hp1)).same s4
      exact ⟨.ref e, rfl, (by show 4 ≤ sizeLine; decide), fun t ht => ⟨e, C, dd, t, _, _, false, rfl, hs1.same (Same.new ht), ec, upd_same, .cons (.ty _) (.cons (.ty _) (.cons (.own _) (.cons (.own _) .nil))), g.far, q _ (Same.new ht)⟩⟩
    have s12x := Same.trans (Same.trans s1314 (Same.new hp1)) s15
    refine ⟨D3, _, rfl, SqL.of eD3, _, rfl, iteF ?_⟩
    refine ⟨.ref a1, rfl, .ref a2, rfl, (by show 2 ≤ sizeLine; decide), fun p2 hp2 => ⟨p2, rfl, ⟨_, SqL.of upd_same⟩, fun D4 hD4 => ?_⟩⟩
    refine lc_bools (xs := [V.ref a1, V.ref a2]) true hD4 upd_same (by show 2 ≤ 1000; decide) (fun _ => rfl) (fun x hx H4 s4 Q q => ?_) (fun H16 s16 eD4 => ?_)
    · obtain ⟨e, C, dd, rfl, hs, ec, g⟩ := two x hx
      have hs1 := ((hs.same s12x).same (Same.new hp2)).same s4
      exact ⟨.ref e, rfl, e, C, dd, .ref (ad "MissingError"), _, true, rfl, hs1, ec, .own _, g.mi, true, rfl, iteT ⟨.ref e, rfl, e, C, dd, .ty "LookupError", _, true, rfl, hs1, ec, .ty _, g.lo, q _ (fun _ _ z => z)⟩⟩
    have sE := Same.trans (Same.trans s12x (Same.new hp2)) s16
    have st := st11.same sE
    exact ⟨D4, _, rfl, SqL.of eD4, _, rfl, iteF ⟨.ref a11, rfl, a11, _, g11, .ref (ad "LimitError"), _, true, rfl, st, FC.cTooMany.T.ec, .own _, FC.great1, true, rfl, iteT ⟨.ref a11, rfl, a11, _, g11, .ty "ArithmeticError", _, true, rfl, st, FC.cTooMany.T.ec, .ty _, FC.great2, q _ (Same.trans sH sE)⟩⟩⟩
end
end K11
end

section
set_option maxHeartbeats 4000000
/-! words and numbers are tame -/
namespace K11
open PySem PySem.Spec PyProof.Rows L2
theorem tame_str {z : Str} (h : z.length ≤ 5000) (hc : ∀ c ∈ z.cps.toList, c < 1114112) : Tame (.str z) := by
  refine ⟨fun y e => by cases e; exact ⟨h, hc⟩, rfl, (by show PyData.depth (.str z) ≤ 10; simp only [PyData.depth]; omega), ?_⟩
  rw [PyData.shown_str]
  have := StrLaws.reprText_len z (fun c hm => Nat.lt_trans (hc c hm) (by decide))
  omega
theorem tame_word {z : Str} (h : z.length ≤ 7) (hc : ∀ c ∈ z.cps.toList, 97 ≤ c ∧ c ≤ 101) : Tame (.str z) := tame_str (by omega) fun c hm => by have := (hc c hm).2; omega
theorem tame_int {i : Int} (h : i.natAbs < 10 ^ 30) : Tame (.int i) := by
  refine ⟨fun y e => (by cases e), ?_, (by show PyData.depth (.int i) ≤ 10; simp only [PyData.depth]; omega), ?_⟩
  · simp only [PyData.showable]
    have l : i.natAbs.log2 ≤ i.natAbs.log2 := Nat.le_refl _
    by_cases z : i.natAbs = 0
    · rw [z]; decide
    · have := (Nat.log2_lt z (k := 100)).mpr (Nat.lt_trans h (by decide))
      exact decide_eq_true (by omega)
  · have e := int_text_length_le10 (k := 30) (by decide) h
    show (Str.ofString (toString i)).length ≤ 60000
    rw [PySem.ofString_length]; omega
end K11
end

section
set_option maxHeartbeats 4000000
/-! the law's look at one pot -/
namespace K11
open PySem PySem.Spec PyProof.Rows L2
def scalarD : PyData → Bool
  | .list _ => false | .tuple _ => false | .dict _ => false | _ => true
def shallow : PyData → Bool
  | .list ds => ds.all scalarD && !(ds.length == 2)
  | .tuple ds => ds.all scalarD
  | .dict kvs => kvs.all fun p => scalarD p.2
  | _ => true
theorem odd_shallow : ∀ d ∈ oddD, shallow d = true := by decide +kernel
theorem Dx.scal {H H' : Hp} {v : V} {d : PyData} (h : Dx H v d) (k : scalarD d = true) : Dx H' v d := by
  cases h with
  | non => exact .non
  | bl b => exact .bl b
  | int i => exact .int i
  | str x => exact .str x
  | lst _ _ => cases k
  | tup _ _ => cases k
  | dic _ _ => cases k
theorem DxAll.scal {H H' : Hp} : ∀ {vs : List V} {ds : List PyData}, DxAll H vs ds → ds.all scalarD = true → DxAll H' vs ds
  | _, _, .nil, _ => .nil
  | _, _, .cons a b, k => by
    rw [List.all_cons] at k
    obtain ⟨k1, k2⟩ := Bool.and_eq_true_iff.mp k
    exact .cons (a.scal k1) (DxAll.scal b k2)
theorem all_zip : ∀ (ks ds : List PyData), ks.length = ds.length → ((ks.zip ds).all fun p => scalarD p.2) = true → ds.all scalarD = true
  | [], [], _, _ => rfl
  | [], _ :: _, h, _ => by cases h
  | _ :: _, [], _, _ => rfl
  | k :: ks, d :: ds, h, a => by
    rw [List.zip_cons_cons, List.all_cons] at a
    obtain ⟨a1, a2⟩ := Bool.and_eq_true_iff.mp a
    rw [List.all_cons, show scalarD d = true from a1, all_zip ks ds (by simpa using h) a2]
    rfl
/-- a shallow thing stays when what it stands at stays -/
theorem Dx.top {H H' : Hp} {v : V} {d : PyData} (h : Dx H v d) (k : shallow d = true) (b : ∀ a o, v = .ref a → H a = some o → H' a = some o) : Dx H' v d := by
  cases h with
  | non => exact .non
  | bl c => exact .bl c
  | int i => exact .int i
  | str x => exact .str x
  | lst e l => exact .lst (b _ _ rfl e) (l.scal (Bool.and_eq_true_iff.mp k).1)
  | tup e l => exact .tup (b _ _ rfl e) (l.scal k)
  | dic e l => exact .dic (b _ _ rfl e) (l.scal (all_zip _ _ (by rw [List.length_map, ← l.length, List.length_map]) k))
/-- .. and when the pot changes -/
theorem Dx.but {p : Addr} {H H' : Hp} {v : V} {d : PyData} (h : Dx H v d) (k : shallow d = true) (hp : PotAt H p) (b : But p H H') : Dx H' v d := by
  refine h.top k fun a o e z => b a o (fun ea => ?_) z
  subst ea
  subst e
  obtain ⟨x, y, ep, _⟩ := hp
  cases h with
  | lst e l =>
    rw [ep] at e
    cases e
    have k2 := (Bool.and_eq_true_iff.mp k).2
    have := l.length
    simp only [List.length_cons, List.length_nil] at this
    rw [← this] at k2
    cases k2
  | tup e l => rw [ep] at e; cases e
  | dic e l => rw [ep] at e; cases e
theorem Dx.put {D : Addr} {o : HO} {H : Hp} {v : V} {d : PyData} (h : Dx H v d) (k : shallow d = true) (n : v ≠ .ref D) : Dx (upd H D o) v d :=
  h.top k fun a u e z => by rw [upd_ne (fun ea => n (by rw [e, ea]))]; exact z
theorem at1 {α : Type} {a b : α} {r : List α} : atI (a :: b :: r) 1 = some b := by
  unfold atI ixN
  rw [if_pos (by decide), if_pos (by simp only [List.length_cons]; omega)]
  rfl
def spRight : Sp := fun vs H Q _ => ∃ (p : Addr), vs = [.ref p] ∧ PotAt H p ∧ ∀ H', But p H H' → Q (.bl true) H'
section
variable {P : Program} {w : World} {K : PySem.W.Frag} {mg : Str → Option Value} {base : Heap} {ad : Str → Addr} {fd : Str → FuncData}
theorem scRight : FnScope ["_law_pot_here", "_law_words", "_law_thing", "_law_near", "_law_turn", "_law_far"] ["_law_pot_here"] (defScope sRight) := ⟨rfl, rfl, rfl, by decide +kernel, rfl, by decide +kernel, by decide +kernel⟩
theorem ok_right (X : Tx K mg ad fd) (L : TellC K mg ad) (VC : ValC K mg ad) (PC : PlaC K mg ad) (FC : FamC K mg ad) : FnG P w K mg base 7 (ad "_law_right") (fd "_law_right") ["_law_pot_here"] spRight := by
  have GD : FnOk P w K mg base CX0 1 (ad "_law_draw") (fd "_law_draw") ["_law_pot_here", "_law_size"] spDraw := ok_draw X
  have GW : FnOk P w K mg base CX0 3 (ad "_law_word") (fd "_law_word") ["_law_pot_here"] spWord := ok_word X
  have GO : FnOk P w K mg base CX0 3 (ad "_law_odd") (fd "_law_odd") ["_law_pot_here"] spOdd := ok_odd X
  have GL : FnG P w K mg base 3 (ad "_law_looks_right") (fd "_law_looks_right") ["_law_thing"] spLooks := ok_looks X
  have GR : FnG P w K mg base 6 (ad "_law_order_right") (fd "_law_order_right") ["_law_near", "_law_far"] spOrder := ok_order X L
  have GV : FnOk P w K mg base CX0 2 (ad "_law_values_right") (fd "_law_values_right") ["_law_thing"] spOddB := ok_values X VC
  have GP : FnOk P w K mg base CX0 2 (ad "_law_places_right") (fd "_law_places_right") ["_law_thing"] spOddB := ok_places X PC
  have GF : FnOk P w K mg base CX0 2 (ad "_law_families_right") (fd "_law_families_right") ["_law_thing"] spOddB := ok_families X FC
  refine fnG_body X.F__law_right scRight (fun vs H Q E h => ?_) (fun cdv A outer s H vs Q E hr h => ?_)
  · obtain ⟨p, rfl, _⟩ := h
    rfl
  · obtain ⟨p, rfl, hp, q⟩ := h
    have R1 : Room 1 _ := hr.rm.mono (by decide)
    have R2 : Room 2 _ := hr.rm.mono (by decide)
    have R3 : Room 3 _ := hr.rm.mono (by decide)
    have G6 : RoomG 6 _ := hr
    have G3 : RoomG 3 _ := hr.mono (by decide)
    refine ⟨_, (pss_cons (ps_set (i := 1) scRight.nd rfl (.inl rfl) (by exact (pe_op op_cat (pe_lc (own := [("_law_turn", 4)]) (g := gName 4) rfl scRight.nd (pi_range1 (by rfl) X.m_range (pa_cons pe_int pa_nil)) (blkOk_by (own := [("_law_turn", 4)]) (N := ["_law_pot_here", "_law_words", "_law_thing", "_law_near", "_law_turn", "_law_far"]) (sc := defScope sRight) (by decide +kernel)) (fun _ _ _ _ _ => pg_name (i := 4) scRight.nd rfl (Or.inl rfl)) (fun _ _ _ _ _ => pts_nil) (fun _ _ _ _ _ => (pe_call GW R3 (by rfl) X.g__law_word X.F__law_word.kp X.b__law_word .nil pass0 (pa_cons (pv 0) pa_nil)))) (pe_lst (pa_cons pe_str (pa_cons pe_str pa_nil))))))
  (pss_cons (ps_for PassesOwn.never rfl (pi_list (pe_op op_cat (pe_op op_cat (pv 1) (pe_lc (own := [("_law_turn", 4)]) (g := gName 4) rfl scRight.nd (pi_range1 (by rfl) X.m_range (pa_cons pe_int pa_nil)) (blkOk_by (own := [("_law_turn", 4)]) (N := ["_law_pot_here", "_law_words", "_law_thing", "_law_near", "_law_turn", "_law_far"]) (sc := defScope sRight) (by decide +kernel)) (fun _ _ _ _ _ => pg_name (i := 4) scRight.nd rfl (Or.inl rfl)) (fun _ _ _ _ _ => pts_nil) (fun _ _ _ _ _ => (pe_call GO R3 (by rfl) X.g__law_odd X.F__law_odd.kp X.b__law_odd .nil pass0 (pa_cons (pv 0) pa_nil))))) (pe_lst (pa_cons (pe_call GD R1 (by rfl) X.g__law_draw X.F__law_draw.kp X.b__law_draw .nil pass0 (pa_cons (pv 0) (pa_cons (pe_op op_pow pe_int pe_int) pa_nil))) (pa_cons (pe_un un_neg (pe_call GD R1 (by rfl) X.g__law_draw X.F__law_draw.kp X.b__law_draw .nil pass0 (pa_cons (pv 0) (pa_cons (pe_op op_pow pe_int pe_int) pa_nil)))) pa_nil))))) (pg_name (i := 2) scRight.nd rfl (.inl rfl))
  (pss_cons (ps_if (pt_not (pt_val (pe_callG (E := E0) GL G3 (by rfl) X.g__law_looks_right X.F__law_looks_right.kp X.b__law_looks_right (pa_cons (pv 2) pa_nil))))
  (pss_one (ps_ret (by exact pe_bl)))
  pss_nil)
  (pss_one (ps_if (PW.pt (pw_or (pt_not (pt_val (pe_callG (E := E0) GR G6 (by rfl) X.g__law_order_right X.F__law_order_right.kp X.b__law_order_right (pa_cons (pv 2) (pa_cons (pe_ix ix_list (pv 1) pe_int (fun _ _ => rfl)) pa_nil))))) (pw_or1 (pt_not (pt_val (pe_callG (E := E0) GR G6 (by rfl) X.g__law_order_right X.F__law_order_right.kp X.b__law_order_right (pa_cons (pe_ix ix_list (pv 1) pe_int (fun _ _ => rfl)) (pa_cons (pv 2) pa_nil))))))))
  (pss_one (ps_ret (by exact pe_bl)))
  pss_nil))))
  (pss_cons (ps_for PassesOwn.never rfl (pi_list (pv 1)) (pg_name (i := 3) scRight.nd rfl (.inr rfl))
  (pss_one (ps_if (pt_not (pt_val (pe_callB (cr_all rfl) (by rfl) X.m_all (by decide +kernel) (pa_cons (pe_lc (own := [("_law_far", 5)]) (g := gName 5) rfl scRight.nd (pi_list (pv 1)) (blkOk_by (own := [("_law_far", 5)]) (N := ["_law_pot_here", "_law_words", "_law_thing", "_law_near", "_law_turn", "_law_far"]) (sc := defScope sRight) (by decide +kernel)) (fun _ _ _ _ _ => pg_name (i := 5) scRight.nd rfl (Or.inl rfl)) (fun _ _ _ _ _ => pts_nil) (fun _ _ _ _ _ => (pe_callG (E := E0) GR G6 (by rfl) X.g__law_order_right X.F__law_order_right.kp X.b__law_order_right (pa_cons (pv 3) (pa_cons (pv 5) pa_nil))))) pa_nil))))
  (pss_one (ps_ret (by exact pe_bl)))
  pss_nil)))
  (pss_cons (ps_set (i := 2) scRight.nd rfl (.inl rfl) (by exact (pe_call GO R3 (by rfl) X.g__law_odd X.F__law_odd.kp X.b__law_odd .nil pass0 (pa_cons (pv 0) pa_nil))))
  (pss_one (ps_ret (by exact (pe_and (pe_call GV R2 (by rfl) X.g__law_values_right X.F__law_values_right.kp X.b__law_values_right .nil pass0 (pa_cons (pv 2) pa_nil)) (pe_and (pe_call GP R2 (by rfl) X.g__law_places_right X.F__law_places_right.kp X.b__law_places_right .nil pass0 (pa_cons (pv 2) pa_nil)) (pe_one (pe_call GF R2 (by rfl) X.g__law_families_right X.F__law_families_right.kp X.b__law_families_right .nil pass0 (pa_cons (pv 2) pa_nil)))))))))))), ?_⟩
    have cp : CPow 10 30 := ⟨by decide, by decide, by decide⟩
    -- the words
    refine ⟨8, rfl, by omega, by omega, fun D hD => ?_⟩
    refine lc_range (lo := 0) (n := 8) (fun i H' => ∃ ws : List Str, ws.length = i ∧ (∀ z ∈ ws, Tame (.str z)) ∧ H' D = some (.lst (ws.map V.str)) ∧ PotAt H' p ∧ But p H H')
      ⟨[], rfl, (fun _ h => nomatch h), upd_same, hp.same (Same.new hD), But.new hD⟩ (fun i H' hi hP => ?_) (fun H' hP => ?_)
    · obtain ⟨ws, el, ht, eD, hp', hb'⟩ := hP
      refine ⟨rfl, .ref p, rfl, p, rfl, hp', fun z H2 hz hc hp2 hb2 => ?_⟩
      have nD : D ≠ p := hp.ne hD
      refine ⟨_, hb2 _ _ nD eD, ?_, ws ++ [z], ?_, ?_, ?_, ?_, ?_⟩
      · rw [List.length_map, el, sizeLine_eq]; omega
      · rw [List.length_append, el]; rfl
      · intro y hy
        rcases List.mem_append.mp hy with hy | hy
        · exact ht y hy
        · rw [List.mem_singleton.mp hy]; exact tame_word hz hc
      · rw [upd_same, List.map_append]; rfl
      · obtain ⟨x, y, e, h⟩ := hp2
        exact ⟨x, y, by rw [upd_ne nD.symm]; exact e, h⟩
      · intro b o hb e
        rw [upd_ne (ne_of_none e hD)]
        exact hb2 b o hb (hb' b o hb e)
    obtain ⟨ws, el, ht, eD, hp1, hb1⟩ := hP
    refine ⟨(by show 2 ≤ sizeLine; decide), fun l2 hl2 => ⟨D, l2, _, _, rfl, rfl, Same.new hl2 _ _ eD, upd_same, (by rw [List.length_map, el]; show 10 ≤ sizeLine; decide), fun lw hlw => ?_⟩⟩
    have sw := Same.trans (Same.new hl2 (o := .lst [V.str "", V.str "e"])) (Same.new hlw (o := .lst (ws.map V.str ++ [V.str "", V.str "e"])))
    have nw : lw ≠ p := (hp1.same (Same.new hl2 (o := .lst [V.str "", V.str "e"]))).ne hlw
    replace hp1 := hp1.same sw
    replace hb1 := But.trans hb1 (But.same (p := p) sw)
    have ew : (upd (upd H' l2 (.lst [V.str "", V.str "e"])) lw (.lst (ws.map V.str ++ [V.str "", V.str "e"]))) lw = some (.lst ((ws ++ (["", "e"] : List Str)).map V.str)) := by rw [upd_same, List.map_append]; rfl
    clear sw eD hlw
    generalize (upd (upd H' l2 (.lst [V.str "", V.str "e"])) lw (.lst (ws.map V.str ++ [V.str "", V.str "e"]))) = H1 at hp1 hb1 ew ⊢
    have wt : ∀ z ∈ ws ++ (["", "e"] : List Str), Tame (.str z) := by
      intro z hz
      rcases List.mem_append.mp hz with hz | hz
      · exact ht z hz
      · simp only [List.mem_cons, List.not_mem_nil, or_false] at hz
        rcases hz with rfl | rfl
        · exact tame_word (by decide +kernel) (by decide +kernel)
        · exact tame_word (by decide +kernel) (by decide +kernel)
    have wl : (ws ++ (["", "e"] : List Str)).length = 10 := by rw [List.length_append, el]; rfl
    generalize ws ++ (["", "e"] : List Str) = W at ew wt wl
    clear ht el ws
    -- the things
    refine ⟨.ref lw, rfl, 8, rfl, by omega, by omega, fun D2 hD2 => ?_⟩
    refine lc_range (lo := 0) (n := 8) (fun i H' => ∃ vs : List V, vs.length = i ∧ H' D2 = some (.lst vs) ∧ (∀ v ∈ vs, v ≠ .ref D2 ∧ ∃ d ∈ oddD, Dx H' v d) ∧ PotAt H' p ∧ But p H1 H')
      ⟨[], rfl, upd_same, (fun _ h => nomatch h), hp1.same (Same.new hD2), But.new hD2⟩ (fun i H2 hi hP => ?_) (fun H2 hP => ?_)
    · obtain ⟨vs, el, eD2, hv, hp2, hb2⟩ := hP
      have nD : D2 ≠ p := hp1.ne hD2
      refine ⟨rfl, .ref p, rfl, p, rfl, hp2, fun v d H3 hd hm hf hp3 hb3 => ?_⟩
      refine ⟨_, hb3 _ _ nD eD2, ?_, vs ++ [v], ?_, upd_same, ?_, ?_, ?_⟩
      · rw [el, sizeLine_eq]; omega
      · rw [List.length_append, el]; rfl
      · intro y hy
        rcases List.mem_append.mp hy with hy | hy
        · obtain ⟨n, d', m, dx⟩ := hv y hy
          exact ⟨n, d', m, (dx.but (odd_shallow d' m) hp2 hb3).put (odd_shallow d' m) n⟩
        · rw [List.mem_singleton.mp hy]
          have n : v ≠ .ref D2 := fun z => by have := hf D2 z; rw [eD2] at this; cases this
          exact ⟨n, d, hm, hd.put (odd_shallow d hm) n⟩
      · obtain ⟨x, y, e, h⟩ := hp3
        exact ⟨x, y, by rw [upd_ne nD.symm]; exact e, h⟩
      · intro b o hb e
        rw [upd_ne (ne_of_none e hD2)]
        exact hb3 b o hb (hb2 b o hb e)
    obtain ⟨vs, el, eD2, hv, hp2, hb2⟩ := hP
    have big : ((10 : Int) ^ (30 : Int).toNat) = 10 ^ 30 := rfl
    refine ⟨lw, D2, _, _, rfl, rfl, hb2 _ _ nw ew, eD2, (by rw [List.length_map, wl, el]; show 18 ≤ sizeLine; decide), fun x1 hx1 => ?_⟩
    have n1 : x1 ≠ p := hp2.ne hx1
    have S1 := Same.new hx1 (o := .lst (W.map V.str ++ vs))
    refine ⟨.ref p, rfl, 10, 30, rfl, rfl, cp, p, _, rfl, hp2.same S1, by decide, by decide +kernel, fun d1 H3 d1a d1b hp3 hb3 => ⟨.ref p, rfl, 10, 30, rfl, rfl, cp, p, _, rfl, hp3, by decide, by decide +kernel, fun d2 H4 d2a d2b hp4 hb4 => ⟨_, rfl, (by show 2 ≤ sizeLine; decide), fun l5 hl5 => ?_⟩⟩⟩
    have e4 := hb4 _ _ n1 (hb3 _ _ n1 upd_same)
    refine ⟨x1, l5, _, _, rfl, rfl, Same.new hl5 _ _ e4, upd_same, (by rw [List.length_append, List.length_map, wl, el]; show 20 ≤ sizeLine; decide), fun T hT => ⟨T, rfl, ⟨_, SqL.of upd_same⟩, ?_⟩⟩
    have S5 := Same.trans (Same.new hl5 (o := .lst [V.int d1, .int (-d2)])) (Same.new hT (o := .lst ((W.map V.str ++ vs) ++ [V.int d1, .int (-d2)])))
    have hth : ∀ v ∈ (W.map V.str ++ vs) ++ [V.int d1, .int (-d2)], ∃ d, Dx (upd (upd H4 l5 (.lst [V.int d1, .int (-d2)])) T (.lst ((W.map V.str ++ vs) ++ [V.int d1, .int (-d2)]))) v d ∧ Tame d := by
      intro v hv'
      rcases List.mem_append.mp hv' with hv' | hv'
      · rcases List.mem_append.mp hv' with hv' | hv'
        · obtain ⟨z, hz, rfl⟩ := List.mem_map.mp hv'
          exact ⟨_, .str z, wt z hz⟩
        · obtain ⟨_, d, m, dx⟩ := hv v hv'
          have sh := odd_shallow d m
          exact ⟨d, (((dx.same S1).but sh (hp2.same S1) hb3).but sh hp3 hb4).same S5, odd_tame d m⟩
      · simp only [List.mem_cons, List.not_mem_nil, or_false] at hv'
        rcases hv' with rfl | rfl
        · exact ⟨_, .int _, tame_int (by rw [big] at d1b; omega)⟩
        · exact ⟨_, .int _, tame_int (by rw [big] at d2b; omega)⟩
    have eT : (upd (upd H4 l5 (.lst [V.int d1, .int (-d2)])) T (.lst ((W.map V.str ++ vs) ++ [V.int d1, .int (-d2)]))) T = some (.lst ((W.map V.str ++ vs) ++ [V.int d1, .int (-d2)])) := upd_same
    have e5 := S5 _ _ (hb4 _ _ nw (hb3 _ _ nw (S1 _ _ (hb2 _ _ nw ew))))
    have hp5 := hp4.same S5
    have hb5 := But.trans hb1 (But.trans hb2 (But.trans (But.same (p := p) S1) (But.trans hb3 (But.trans hb4 (But.same (p := p) S5)))))
    clear S1 S5 e4 hT hl5
    generalize (upd (upd H4 l5 (.lst [V.int d1, .int (-d2)])) T (.lst ((W.map V.str ++ vs) ++ [V.int d1, .int (-d2)]))) = H5 at hth eT e5 hp5 hb5 ⊢
    generalize (W.map V.str ++ vs) ++ [V.int d1, .int (-d2)] = TH at hth eT
    clear hv eD2 hb2 hp2 hb3 hp3 hb4 hp4 hx1 ew hp1 hb1
    obtain ⟨w0, w1, wr, rfl⟩ : ∃ w0 w1 wr, W = w0 :: w1 :: wr := by
      match W, wl with
      | a :: b :: r, _ => exact ⟨a, b, r, rfl⟩
    have t0 := wt w0 (List.mem_cons_self ..)
    have t1 := wt w1 (List.mem_cons_of_mem _ (List.mem_cons_self ..))
    refine for_list (K := K) (a := T) (xs := TH) (fun i σ H' => ∃ r, σ = [some (.ref p), some (.ref lw), r, none, none, none] ∧ Same H5 H') ⟨_, rfl, Same.refl⟩ (fun i σ H' _ ⟨_, _, s⟩ => SqL.of (s _ _ eT)) ?_ ?_
    · rintro i x σ H' hx ⟨r, rfl, s⟩
      obtain ⟨d, dx, td⟩ := hth x (List.mem_of_getElem? hx)
      refine ⟨x, rfl, x, d, rfl, dx.same s, td, fun H6 s6 => ⟨_, rfl, iteF ?_⟩⟩
      have s56 := Same.trans s s6
      refine ⟨x, rfl, .ref lw, rfl, lw, _, 0, .str w0, rfl, rfl, SqL.of (s56 _ _ e5), at0, x, .str w0, d, .str w0, rfl, dx.same s56, .str w0, td, t0, fun H7 s7 => ⟨_, rfl, iteF ?_⟩⟩
      have s57 := Same.trans s56 s7
      refine ⟨.ref lw, rfl, lw, _, 1, .str w1, rfl, rfl, SqL.of (s57 _ _ e5), at1, x, rfl, .str w1, x, .str w1, d, rfl, .str w1, dx.same s57, t1, td, fun H8 s8 => ⟨_, rfl, iteF ⟨_, rfl, Same.trans s57 s8⟩⟩⟩
    · rintro σ H' ⟨r, rfl, s⟩
      refine ⟨.ref lw, rfl, lw, rfl, ⟨_, SqL.of (s _ _ e5)⟩, ?_⟩
      refine for_list (K := K) (a := lw) (xs := (w0 :: w1 :: wr).map V.str) (fun i σ H' => ∃ r n, σ = [some (.ref p), some (.ref lw), r, n, none, none] ∧ Same H5 H') ⟨_, _, rfl, s⟩ (fun i σ H' _ ⟨_, _, _, s⟩ => SqL.of (s _ _ e5)) ?_ ?_
      · rintro i x σ H' hx ⟨r, n, rfl, s⟩
        obtain ⟨z, hz, rfl⟩ := List.mem_map.mp (List.mem_of_getElem? hx)
        have tz := wt z hz
        refine ⟨.ref lw, rfl, lw, rfl, ⟨_, SqL.of (s _ _ e5)⟩, fun D hD => ?_⟩
        refine lc_bools true hD (s _ _ e5) (by rw [List.length_map, wl]; decide) (fun _ => rfl) (fun y hy H6 s6 Q q => ?_) (fun H7 s7 eD => ?_)
        · obtain ⟨u, hu, rfl⟩ := List.mem_map.mp hy
          exact ⟨.str z, rfl, .str u, rfl, .str z, .str u, .str z, .str u, rfl, .str z, .str u, tz, wt u hu, q⟩
        · have ea : (List.replicate ((w0 :: w1 :: wr).map V.str).length true).all id = true := by simp
          refine ⟨D, _, rfl, SqL.of eD, _, rfl, ?_⟩
          rw [ea]
          exact iteF ⟨_, _, rfl, Same.trans s s7⟩
      · rintro σ H' ⟨r, n, rfl, s⟩
        refine ⟨.ref p, rfl, p, rfl, hp5.same s, fun v d H9 hd hm hf hp9 hb9 => ?_⟩
        have hk := odd_kind d hm
        exact ⟨v, rfl, v, d, rfl, hd, hk, fun H10 s10 => ⟨true, rfl, iteT ⟨v, rfl, v, d, rfl, hd.same s10, hk, fun H11 s11 => ⟨true, rfl, iteT ⟨v, rfl, v, d, rfl, (hd.same s10).same s11, hk, fun H12 s12 => q _ (But.trans hb5 (But.trans (But.same (p := p) s) (But.trans hb9 (But.same (p := p) (Same.trans (Same.trans s10 s11) s12)))))⟩⟩⟩⟩⟩
end
end K11
end

section
set_option maxHeartbeats 4000000
/-! the law -/
namespace K11
open PySem PySem.Spec PyProof.Rows L2
/-- a text some times -/
def timesS (x : Str) (k : Nat) : Str := ⟨(List.replicate k x.cps).foldl (· ++ ·) #[]⟩
def rMulS : R2 := fun x y H Q => ∃ i k, x = .str i ∧ y = .int k ∧ 1 < k ∧ k ≤ 1000 ∧ 0 < i.length ∧ i.length ≤ 100 ∧ (timesS i k.toNat).length ≤ sizeLine ∧ Q (.str (timesS i k.toNat)) H
theorem op_mulS {X : Cx} : OpR X (binaryOp .Mult) rMulS := by
  intro pins s σ H x y v u Q I rx ry h
  obtain ⟨i, k, rfl, rfl, k1, k2, l1, l2, hl, q⟩ := h
  obtain ⟨t, rfl⟩ := rx
  obtain ⟨t', rfl⟩ := ry
  have n1 : ¬ k < 1 := by omega
  have n2 : (k == 1 || i.length == 0) = false := by
    rw [Bool.or_eq_false_iff]
    exact ⟨by simp; omega, by simp; omega⟩
  refine PySem.P.mul_str ?_ (fun _ _ => ?_) (fun _ _ => ?_) ?_
  · rw [decide_eq_false (by omega), decide_eq_false (by omega)]; rfl
  · have : (2 ^ 63 - 1 : Int) / k ≥ 1000 := by
      refine (Int.le_ediv_iff_mul_le (by omega)).mpr ?_
      omega
    omega
  · show decide _ = false
    refine decide_eq_false ?_
    have : i.length * k.toNat ≤ 100 * 1000 := Nat.mul_le_mul l2 (by omega)
    rw [sizeLine_eq]
    omega
  · rw [if_neg n1, n2, if_neg (by decide)]
    exact ⟨hl, .str _, H, I.tok _, ⟨_, rfl⟩, q⟩
def longS : Str := timesS "abcd" 625
theorem long_len : longS.length = 2500 := by decide +kernel
theorem long_tame : Tame (.str longS) := tame_str (by rw [long_len]; decide) (by decide +kernel)
theorem long_e : Tame (.str (longS ++ "e")) := tame_str (by decide +kernel) (by decide +kernel)
theorem long_a : Tame (.str (longS ++ "a")) := tame_str (by decide +kernel) (by decide +kernel)
theorem sqSame {K : PySem.W.Frag} {H H' : Hp} {a : Addr} {xs : List V} (h : SqL K H a xs) (s : Same H H') : SqL K H' a xs := by
  rcases h with h | h
  · rcases h with e | ⟨o, e⟩
    · exact .inl (.inl (s _ _ e))
    · exact .inl (.inr ⟨o, s _ _ e⟩)
  · exact .inr h
def spLaw (K : PySem.W.Frag) : Sp := fun vs H Q _ => ∃ (a : Addr) (ns : List Int), vs = [.ref a] ∧ SqL K H a (ns.map V.int) ∧ ∀ H', Q (.bl true) H'
section
variable {P : Program} {w : World} {K : PySem.W.Frag} {mg : Str → Option Value} {base : Heap} {ad : Str → Addr} {fd : Str → FuncData}
theorem scLaw : FnScope ["_law_script", "_law_long", "_law_k"] ["_law_script"] (defScope sLaw) := ⟨rfl, rfl, rfl, by decide +kernel, rfl, by decide +kernel, by decide +kernel⟩
theorem ok_law (X : Tx K mg ad fd) (L : TellC K mg ad) (VC : ValC K mg ad) (PC : PlaC K mg ad) (FC : FamC K mg ad) : FnG P w K mg base 8 (ad "law") (fd "law") ["_law_script"] (spLaw K) := by
  have GP : FnOk P w K mg base CX0 1 (ad "_law_pot") (fd "_law_pot") ["_law_script", "_law_k"] (spPot K) := ok_pot X
  have GL : FnG P w K mg base 3 (ad "_law_looks_right") (fd "_law_looks_right") ["_law_thing"] spLooks := ok_looks X
  have GR : FnG P w K mg base 6 (ad "_law_order_right") (fd "_law_order_right") ["_law_near", "_law_far"] spOrder := ok_order X L
  have GX : FnG P w K mg base 7 (ad "_law_right") (fd "_law_right") ["_law_pot_here"] spRight := ok_right X L VC PC FC
  refine fnG_body X.F_law scLaw (fun vs H Q E h => ?_) (fun cdv A outer s H vs Q E hr h => ?_)
  · obtain ⟨a, ns, rfl, _⟩ := h
    rfl
  · obtain ⟨a, ns, rfl, hs, q⟩ := h
    have R1 : Room 1 _ := hr.rm.mono (by decide)
    have G6 : RoomG 6 _ := hr.mono (by decide)
    have G3 : RoomG 3 _ := hr.mono (by decide)
    refine ⟨_, (pss_cons (ps_set (i := 1) scLaw.nd rfl (.inl rfl) (by exact (pe_op op_mulS pe_str pe_int)))
  (pss_cons (ps_if (PW.pt (pw_or (pt_not (pt_val (pe_callG (E := E0) GL G3 (by rfl) X.g__law_looks_right X.F__law_looks_right.kp X.b__law_looks_right (pa_cons (pv 1) pa_nil)))) (pw_or (pt_not (pt_val (pe_callG (E := E0) GL G3 (by rfl) X.g__law_looks_right X.F__law_looks_right.kp X.b__law_looks_right (pa_cons (pe_op op_add_str (pv 1) pe_str) pa_nil)))) (pw_or1 (pt_not (pt_val (pe_callG (E := E0) GR G6 (by rfl) X.g__law_order_right X.F__law_order_right.kp X.b__law_order_right (pa_cons (pv 1) (pa_cons (pe_op op_add_str (pv 1) pe_str) pa_nil)))))))))
  (pss_one (ps_ret (by exact pe_bl)))
  pss_nil)
  (pss_one (ps_ret (by exact (pe_callB (cr_all rfl) (by rfl) X.m_all (by decide +kernel) (pa_cons (pe_lc (own := [("_law_k", 2)]) (g := gName 2) rfl scLaw.nd (pi_range1 (by rfl) X.m_range (pa_cons (pe_callB (call_max2 rfl) (by rfl) X.m_max (by decide +kernel) (pa_cons pe_int (pa_cons (pe_callB (call_min2 rfl) (by rfl) X.m_min (by decide +kernel) (pa_cons pe_int (pa_cons (pe_callB call_len (by rfl) X.m_len (by decide +kernel) (pa_cons (pv 0) pa_nil)) pa_nil))) pa_nil))) pa_nil)) (blkOk_by (own := [("_law_k", 2)]) (N := ["_law_script", "_law_long", "_law_k"]) (sc := defScope sLaw) (by decide +kernel)) (fun _ _ _ _ _ => pg_name (i := 2) scLaw.nd rfl (Or.inl rfl)) (fun _ _ _ _ _ => pts_nil) (fun _ _ _ _ _ => (pe_callG (E := E0) GX hr (by rfl) X.g__law_right X.F__law_right.kp X.b__law_right (pa_cons (pe_call GP R1 (by rfl) X.g__law_pot X.F__law_pot.kp X.b__law_pot .nil pass0 (pa_cons (pv 0) (pa_cons (pv 2) pa_nil))) pa_nil)))) pa_nil))))))), ?_⟩
    refine ⟨"abcd", 625, rfl, rfl, by decide, by decide, by decide +kernel, by decide +kernel, (by show longS.length ≤ sizeLine; rw [long_len]; decide), ?_⟩
    show tSeq _ _ _ [some (.ref a), some (.str longS), none] _
    have fits : ∀ y : Str, y.length ≤ 10 → longS.length + y.length ≤ sizeLine := fun y h => by rw [long_len, sizeLine_eq]; omega
    refine ⟨.str longS, rfl, .str longS, .str longS, rfl, .str _, long_tame, fun H1 s1 => ⟨_, rfl, iteF ⟨.str longS, rfl, longS, "e", rfl, rfl, fits _ (by decide +kernel), .str _, .str _, rfl, .str _, long_e, fun H2 s2 => ⟨_, rfl, iteF ⟨.str longS, rfl, .str longS, rfl, longS, "a", rfl, rfl, fits _ (by decide +kernel), .str longS, .str (longS ++ "a"), .str _, .str _, rfl, .str _, .str _, long_tame, long_a, fun H3 s3 => ⟨_, rfl, iteF ?_⟩⟩⟩⟩⟩⟩
    have s13 := Same.trans (Same.trans s1 s2) s3
    have hs3 := sqSame hs s13
    obtain ⟨m, hm, em⟩ : ∃ m : Nat, m ≤ 5 ∧ (if (if ((ns.map V.int).length : Int) < 5 then ((ns.map V.int).length : Int) else 5) > 1 then (if ((ns.map V.int).length : Int) < 5 then ((ns.map V.int).length : Int) else 5) else 1) = (m : Int) := by
      by_cases c : ((ns.map V.int).length : Int) < 5
      · rw [if_pos c]
        by_cases c2 : ((ns.map V.int).length : Int) > 1
        · rw [if_pos c2]; exact ⟨_, by omega, rfl⟩
        · rw [if_neg c2]; exact ⟨1, by omega, rfl⟩
      · rw [if_neg c, if_pos (by decide)]; exact ⟨5, Nat.le_refl _, rfl⟩
    refine ⟨.ref a, rfl, .ref a, _, rfl, .inl ⟨_, hs3, rfl⟩, 5, _, rfl, 1, _, rfl, _, rfl, ?_⟩
    rw [em]
    refine ⟨by omega, by omega, fun D hD => ?_⟩
    refine lc_range (lo := 0) (n := (m : Int).toNat) (fun i H' => Same H3 H' ∧ H' D = some (.lst ((List.replicate i true).map V.bl))) ⟨Same.new hD, upd_same⟩ (fun i H' hi hP => ?_) (fun H' hP => ?_)
    · obtain ⟨s4, eD⟩ := hP
      refine ⟨rfl, .ref a, rfl, .int (0 + i), rfl, a, ns, _, rfl, sqSame hs3 s4, by omega, by omega, fun p H4 hp0 hpot s5 => ⟨p, rfl, hpot, fun H5 hb => ?_⟩⟩
      have s6 : Same H' H5 := fun b o e => hb b o (ne_of_none e hp0) (s5 b o e)
      refine ⟨_, s6 _ _ eD, ?_, ?_, ?_⟩
      · rw [List.length_map, List.length_replicate, sizeLine_eq]; omega
      · intro b o e
        rw [upd_ne (ne_of_none e hD)]
        exact s6 _ _ (s4 _ _ e)
      · rw [upd_same, List.replicate_succ', List.map_append]; rfl
    · obtain ⟨s4, eD⟩ := hP
      have ea : (List.replicate (m : Int).toNat true).all id = true := by simp
      refine ⟨D, _, rfl, SqL.of eD, ?_⟩
      rw [ea]
      exact q _
end
end K11
end

section
set_option maxHeartbeats 4000000
/-! what the top has left, as bools of the written part -/
namespace K11
open PySem PySem.Spec PyProof.Rows L2
section
open PySem.W
def xbB (K : Frag) (C : Addr) (bmB : List Value) (newId : String) : Bool := match K.lookup C with
  | some ⟨.type "type", _, .cls cd, sl⟩ => (match cd.mro, sl.toList with
    | .ref C' :: bm, [_, _, _, _, some (.builtin n), _] => C' == C && n == newId && !cd.hasDel && cd.hasDict && refsTo bmB bm
    | _, _ => false)
  | _ => false
theorem xb_cls {K : Frag} {C : Addr} {bmB : List Value} {newId : String} (q : xbB K C bmB newId = true) :
    ∃ nm qn N bs bm sn sub ab col dd k0 k1 k2 k3 k5, K.lookup C = some (excClassObj nm qn C N bs bm true sn sub ab col dd k0 k1 k2 k3 k5 newId) ∧ refsTo bmB bm = true := by
  unfold xbB at q
  split at q
  · rename_i dd cd sl ho
    split at q
    · rename_i C' bm k0 k1 k2 k3 n k5 hm hs
      simp only [Bool.and_eq_true, beq_iff_eq, Bool.not_eq_true'] at q
      obtain ⟨⟨⟨⟨rfl, rfl⟩, hdel⟩, hdic⟩, ht⟩ := q
      obtain ⟨nm, bs, mro, ns, qn, hd, sn, sub, ab, col, del⟩ := cd
      dsimp only at hm hdel hdic
      subst hm hdel hdic
      refine ⟨nm, qn, ns, bs, bm, sn, sub, ab, col, dd, k0, k1, k2, k3, k5, ?_, ht⟩
      rw [ho]
      have e : sl = #[k0, k1, k2, k3, some (.builtin n), k5] := by
        obtain ⟨l⟩ := sl
        have : l = [k0, k1, k2, k3, some (.builtin n), k5] := hs
        rw [this]
      rw [e]
    · cases q
  · cases q
def ecB (K : Frag) (D : Addr) : Bool :=
  decide (findIn K (.ref D) "__getattribute__" = some (some (.builtin "BaseException.__getattribute__"))) && (decide (findIn K (.ref D) "__getattr__" = some none) && (decide (subIn K (.ref D) (.type "BaseException") = some true) && (hasDictIn K D &&
  (decide (findIn K (.ref D) "__class__" = some (some (.builtin "object.__class__"))) && (decide (specialIn K (.builtin "object.__class__") "__get__" = some (some (.builtin "getset_descriptor.__get__"))) && (decide (takesIn K (.builtin "object.__class__") = some true) && decide (mroIn K D (.type "object") = some true)))))))
theorem ec_of {K : Frag} {D : Addr} (h : ecB K D = true) : EC K D := by
  obtain ⟨h1, h⟩ := He.ba h
  obtain ⟨h2, h⟩ := He.ba h
  obtain ⟨h3, h⟩ := He.ba h
  obtain ⟨h4, h⟩ := He.ba h
  obtain ⟨h5, h⟩ := He.ba h
  obtain ⟨h6, h⟩ := He.ba h
  obtain ⟨h7, h8⟩ := He.ba h
  exact ⟨of_decide_eq_true h1, of_decide_eq_true h2, of_decide_eq_true h3, h4, of_decide_eq_true h5, of_decide_eq_true h6, of_decide_eq_true h7, of_decide_eq_true h8⟩
def xbAll (K : Frag) (C : Addr) (bmB : List Value) (newId : String) : Bool :=
  xbB K C bmB newId && (ecB K C && (decide (findIn K (.ref C) "__setattr__" = some (some (.builtin "object.__setattr__"))) && (decide (typeIn K (.ref C) = some (.type "type")) && keepIn K (.ref C))))
theorem xb_of {K : Frag} {C : Addr} {bmB : List Value} {newId : String} (h : xbAll K C bmB newId = true) : XB K C bmB newId := by
  obtain ⟨h1, h⟩ := He.ba h
  obtain ⟨h2, h⟩ := He.ba h
  obtain ⟨h3, h⟩ := He.ba h
  obtain ⟨h4, h5⟩ := He.ba h
  exact ⟨xb_cls h1, ec_of h2, of_decide_eq_true h3, of_decide_eq_true h4, h5⟩
def xiB (K : Frag) (C fI : Addr) : Bool := decide (findIn K (.ref C) "__init__" = some (some (.ref fI))) && decide (typeIn K (.ref fI) = some (.type "function"))
theorem xi_of {K : Frag} {C fI : Addr} (h : xiB K C fI = true) : XI K C fI := by
  obtain ⟨h1, h2⟩ := He.ba h
  exact ⟨of_decide_eq_true h1, of_decide_eq_true h2⟩
/-- the def at f, without defaults -/
def fnA (K : Frag) (f : Addr) : He.FnW := match K.lookup f with
  | some ⟨_, _, .func fd, _⟩ => some (fd.name, fd.qualname, fd.params, fd.body, fd.scope, fd.globals, fd.closure, fd.builtins)
  | _ => none
def plain2 (d k : Value) (b : Bool) : Bool := match d, k with
  | .none, .none => b
  | _, _ => false
theorem plain2_ok {d k : Value} {b : Bool} (h : plain2 d k b = true) : d = .none ∧ k = .none ∧ b = true := by
  unfold plain2 at h
  split at h
  · exact ⟨rfl, rfl, h⟩
  · cases h
def plainB (K : Frag) (f : Addr) : Bool := match K.lookup f with
  | some ⟨_, _, .func fd, _⟩ => plain2 fd.defaults fd.kwdefaults (codeIn K fd.code fd.qualname)
  | _ => false
theorem fn_at {K : Frag} {f : Addr} {nm qual : Str} {params : Arguments} {body : List Stmt} {scope : Scope} (e : fnA K f = some (nm, qual, params, .stmts body, scope, mainGlobals, [], builtinsNs)) (c : plainB K f = true) :
    ∃ (oc : Value) (od : Option Addr) (doc pm : Value) (an : Option Addr) (cdv ct : Value) (osl : Array (Option Value)), K.lookup f = some ⟨oc, od, .func (fnOf nm qual params body scope .none .none doc pm an cdv ct), osl⟩ ∧ codeIn K cdv qual = true := by
  unfold fnA at e
  unfold plainB at c
  cases q : K.lookup f with
  | none => rw [q] at e; cases e
  | some o =>
    obtain ⟨oc, od, dt, osl⟩ := o
    rw [q] at c e
    cases dt with
    | func fd =>
      obtain ⟨n1, n2, n3, n4, n5, n6, n7, n8, n9, n10, n11, n12, n13, n14, n15⟩ := fd
      have e2 : (some (n1, n2, n3, n4, n5, n6, n7, n15) : He.FnW) = some (nm, qual, params, .stmts body, scope, mainGlobals, [], builtinsNs) := e
      simp only [Option.some.injEq, Prod.mk.injEq] at e2
      obtain ⟨h1, h2, h3, h4, h5, h6, h7, h8⟩ := e2
      subst h1 h2 h3 h4 h5 h6 h7 h8
      obtain ⟨rfl, rfl, c3⟩ := plain2_ok (show plain2 n8 n9 (codeIn K n13 n2) = true from c)
      exact ⟨oc, od, n10, n11, n12, n13, n14, osl, rfl, c3⟩
    | _ => cases e
end
end K11
end

section
set_option maxHeartbeats 0
/-! what the top has left, by names -/
namespace K11
open PySem PySem.Spec PyProof.Rows L2
def inits0 : List (Str × Str) := [
  ("InvalidSigns.__init__", "InvalidSigns"),
  ("InvalidTable.__init__", "InvalidTable"),
  ("InvalidWords.__init__", "InvalidWords"),
  ("InvalidLimits.__init__", "InvalidLimits"),
  ("InvalidSteps.__init__", "InvalidSteps"),
  ("InvalidBounds.__init__", "InvalidBounds"),
  ("InvalidMedium.__init__", "InvalidMedium"),
  ("InvalidState.__init__", "InvalidState"),
  ("InvalidSign.__init__", "InvalidSign"),
  ("InvalidRow.__init__", "InvalidRow"),
  ("InvalidCount.__init__", "InvalidCount"),
  ("InvalidNumber.__init__", "InvalidNumber"),
  ("InvalidDescription.__init__", "InvalidDescription"),
  ("InvalidRate.__init__", "InvalidRate"),
  ("InvalidNumbers.__init__", "InvalidNumbers"),
  ("InvalidPaper.__init__", "InvalidPaper"),
  ("InvalidCoder.__init__", "InvalidCoder"),
  ("InvalidWord.__init__", "InvalidWord"),
  ("InvalidText.__init__", "InvalidText"),
  ("InvalidBlock.__init__", "InvalidBlock"),
  ("InvalidSharing.__init__", "InvalidSharing"),
  ("InvalidChoice.__init__", "InvalidChoice"),
  ("InvalidBits.__init__", "InvalidBits"),
  ("InvalidMark.__init__", "InvalidMark"),
  ("InvalidName.__init__", "InvalidName"),
  ("InvalidThing.__init__", "InvalidThing"),
  ("InvalidClaim.__init__", "InvalidClaim"),
  ("InvalidCommand.__init__", "InvalidCommand"),
  ("UnknownWay.__init__", "UnknownWay"),
  ("UnknownName.__init__", "UnknownName")]
def inits1 : List (Str × Str) := [
  ("OtherSigns.__init__", "OtherSigns"),
  ("OtherRate.__init__", "OtherRate"),
  ("NoWeights.__init__", "NoWeights"),
  ("DoesNotFit.__init__", "DoesNotFit"),
  ("LosesSomething.__init__", "LosesSomething"),
  ("Lost.__init__", "Lost"),
  ("NameTaken.__init__", "NameTaken"),
  ("CommandFailed.__init__", "CommandFailed"),
  ("TooMany.__init__", "TooMany")]
def inits : List (Str × Str) := inits0 ++ (inits1)
def adK (K : PySem.W.Frag) (x : Str) : Addr := match inits.lookup x with
  | some C => He.ma K (He.ga K C) "__init__"
  | none => He.ga K x
def inS (i : Nat) : Stmt := match topS i with
  | .ClassDef _ _ _ (b :: _) .. => b
  | s => s
def addrs0 : List Addr := [
  1,
  2,
  3,
  15,
  22,
  23,
  24,
  25,
  28,
  35,
  37,
  38,
  40,
  41,
  42,
  43,
  44,
  47,
  54,
  56,
  57,
  59,
  60,
  61,
  62,
  63,
  66,
  73,
  75,
  76,
  78,
  79,
  80,
  81,
  82,
  85,
  92,
  94,
  95,
  97,
  98,
  99,
  100,
  101,
  104,
  111,
  113,
  114,
  116,
  117,
  118,
  119,
  120,
  123,
  130,
  132,
  133,
  135,
  136,
  137]
def addrs1 : List Addr := [
  138,
  139,
  142,
  149,
  151,
  152,
  154,
  155,
  156,
  157,
  158,
  161,
  168,
  170,
  171,
  173,
  174,
  175,
  176,
  177,
  180,
  187,
  189,
  190,
  192,
  193,
  194,
  195,
  196,
  199,
  206,
  208,
  209,
  211,
  212,
  213,
  214,
  215,
  218,
  225,
  227,
  228,
  230,
  231,
  232,
  233,
  234,
  237,
  244,
  246,
  247,
  249,
  250,
  251,
  252,
  253,
  256,
  263,
  265,
  266]
def addrs2 : List Addr := [
  268,
  269,
  270,
  271,
  272,
  275,
  282,
  284,
  285,
  287,
  288,
  289,
  290,
  291,
  294,
  301,
  303,
  304,
  306,
  307,
  308,
  309,
  310,
  313,
  320,
  322,
  323,
  325,
  326,
  327,
  328,
  329,
  332,
  339,
  341,
  342,
  344,
  345,
  346,
  347,
  348,
  351,
  358,
  360,
  361,
  363,
  364,
  365,
  366,
  367,
  370,
  377,
  379,
  380,
  382,
  383,
  384,
  385,
  386,
  389]
def addrs3 : List Addr := [
  396,
  398,
  399,
  401,
  402,
  403,
  404,
  405,
  408,
  415,
  417,
  418,
  420,
  421,
  422,
  423,
  424,
  427,
  434,
  436,
  437,
  439,
  440,
  441,
  442,
  443,
  446,
  453,
  455,
  456,
  458,
  459,
  460,
  461,
  462,
  465,
  472,
  474,
  475,
  477,
  478,
  479,
  480,
  481,
  484,
  491,
  493,
  494,
  496,
  497,
  498,
  499,
  500,
  503,
  510,
  512,
  513,
  515,
  516,
  517]
def addrs4 : List Addr := [
  518,
  519,
  522,
  529,
  531,
  532,
  534,
  535,
  536,
  537,
  538,
  541,
  548,
  550,
  551,
  553,
  554,
  555,
  556,
  557,
  560,
  567,
  568,
  569,
  570,
  573,
  580,
  582,
  583,
  585,
  586,
  587,
  588,
  589,
  592,
  599,
  601,
  602,
  604,
  605,
  606,
  607,
  608,
  611,
  618,
  619,
  620,
  621,
  624,
  631,
  632,
  633,
  636,
  643,
  645,
  646,
  648,
  649,
  650,
  651]
def addrs5 : List Addr := [
  652,
  655,
  662,
  664,
  665,
  667,
  668,
  669,
  670,
  671,
  674,
  681,
  682,
  683,
  686,
  693,
  695,
  696,
  698,
  699,
  700,
  701,
  702,
  705,
  712,
  714,
  715,
  717,
  718,
  719,
  720,
  721,
  724,
  731,
  733,
  734,
  736,
  737,
  738,
  739,
  740,
  743,
  750,
  751,
  752,
  755,
  762,
  763,
  764,
  767,
  774,
  775,
  776,
  779,
  786,
  788,
  789,
  791,
  792,
  793]
def addrs6 : List Addr := [
  794,
  795,
  798,
  805,
  807,
  808,
  810,
  811,
  812,
  813,
  814,
  817,
  824,
  825,
  826,
  829,
  836,
  838,
  839,
  841,
  842,
  843,
  844,
  845,
  848,
  855,
  856,
  857,
  858,
  861,
  868,
  870,
  871,
  873,
  874,
  875,
  876,
  877,
  880,
  882,
  883,
  885,
  886,
  887,
  889,
  890,
  892,
  893,
  894,
  897,
  898,
  899,
  901,
  902,
  904,
  905,
  906,
  908,
  909,
  911]
def addrs7 : List Addr := [
  912,
  913,
  915,
  916,
  918,
  919,
  920,
  922,
  923,
  925,
  926,
  927,
  929,
  930,
  932,
  933,
  934,
  937,
  938,
  939,
  941,
  942,
  944,
  945,
  946,
  949,
  950,
  951,
  953,
  954,
  956,
  957,
  958,
  960,
  961,
  963,
  964,
  965,
  967,
  968,
  970,
  971,
  972,
  974,
  975,
  977,
  978,
  979,
  982,
  983,
  984,
  987,
  988,
  989,
  992,
  993,
  994,
  997,
  998,
  999]
def addrs8 : List Addr := [
  1002,
  1003]
def addrs : List Addr := addrs0 ++ (addrs1 ++ (addrs2 ++ (addrs3 ++ (addrs4 ++ (addrs5 ++ (addrs6 ++ (addrs7 ++ (addrs8))))))))
def facts0 : List (PySem.W.Frag → Bool) := [
  fun K => He.eqO (PySem.W.nsIn K mainGlobals "isinstance") (some none),
  fun K => He.eqO (PySem.W.nsIn K mainGlobals "int") (some none),
  fun K => He.eqO (PySem.W.nsIn K mainGlobals "bool") (some none),
  fun K => He.eqO (PySem.W.nsIn K mainGlobals "str") (some none),
  fun K => He.eqO (PySem.W.nsIn K mainGlobals "all") (some none),
  fun K => He.eqO (PySem.W.nsIn K mainGlobals "any") (some none),
  fun K => He.eqO (PySem.W.nsIn K mainGlobals "len") (some none),
  fun K => He.eqO (PySem.W.nsIn K mainGlobals "abs") (some none),
  fun K => He.eqO (PySem.W.nsIn K mainGlobals "max") (some none),
  fun K => He.eqO (PySem.W.nsIn K mainGlobals "min") (some none),
  fun K => He.eqO (PySem.W.nsIn K mainGlobals "divmod") (some none),
  fun K => He.eqO (PySem.W.nsIn K mainGlobals "range") (some none),
  fun K => He.eqO (PySem.W.nsIn K mainGlobals "repr") (some none),
  fun K => He.eqO (PySem.W.nsIn K mainGlobals "zip") (some none),
  fun K => He.eqO (PySem.W.nsIn K mainGlobals "ValueError") (some none),
  fun K => He.eqO (PySem.W.nsIn K mainGlobals "LookupError") (some none),
  fun K => He.eqO (PySem.W.nsIn K mainGlobals "RuntimeError") (some none),
  fun K => He.eqO (PySem.W.nsIn K mainGlobals "ArithmeticError") (some none),
  fun K => He.eqO (PySem.W.nsIn K mainGlobals "KeyError") (some none),
  fun K => He.eqO (PySem.W.nsIn K mainGlobals "IndexError") (some none),
  fun K => He.eqO (PySem.W.nsIn K mainGlobals "OverflowError") (some none),
  fun K => He.eqO (PySem.W.nsIn K mainGlobals "NotImplementedError") (some none),
  fun K => match K.lookup sysModules with | some o => decide (o.cls ≠ .type "list") | none => false,
  fun K => He.Fa.ok K (.str "ALL_SIGNS" "abcd"),
  fun K => plainB K (adK K "is_integer"),
  fun K => PySem.W.keepIn K (.ref (adK K "is_integer")),
  fun K => He.eqO (PySem.W.nsIn K mainGlobals "is_integer") (some (some (.ref (adK K "is_integer")))),
  fun K => plainB K (adK K "is_count"),
  fun K => PySem.W.keepIn K (.ref (adK K "is_count")),
  fun K => He.eqO (PySem.W.nsIn K mainGlobals "is_count") (some (some (.ref (adK K "is_count"))))]
def facts1 : List (PySem.W.Frag → Bool) := [
  fun K => plainB K (adK K "is_row"),
  fun K => PySem.W.keepIn K (.ref (adK K "is_row")),
  fun K => He.eqO (PySem.W.nsIn K mainGlobals "is_row") (some (some (.ref (adK K "is_row")))),
  fun K => plainB K (adK K "is_ahead"),
  fun K => PySem.W.keepIn K (.ref (adK K "is_ahead")),
  fun K => He.eqO (PySem.W.nsIn K mainGlobals "is_ahead") (some (some (.ref (adK K "is_ahead")))),
  fun K => plainB K (adK K "_law_pot"),
  fun K => PySem.W.keepIn K (.ref (adK K "_law_pot")),
  fun K => He.eqO (PySem.W.nsIn K mainGlobals "_law_pot") (some (some (.ref (adK K "_law_pot")))),
  fun K => plainB K (adK K "_law_draw"),
  fun K => PySem.W.keepIn K (.ref (adK K "_law_draw")),
  fun K => He.eqO (PySem.W.nsIn K mainGlobals "_law_draw") (some (some (.ref (adK K "_law_draw")))),
  fun K => plainB K (adK K "_law_pick"),
  fun K => PySem.W.keepIn K (.ref (adK K "_law_pick")),
  fun K => He.eqO (PySem.W.nsIn K mainGlobals "_law_pick") (some (some (.ref (adK K "_law_pick")))),
  fun K => plainB K (adK K "_law_odd"),
  fun K => PySem.W.keepIn K (.ref (adK K "_law_odd")),
  fun K => He.eqO (PySem.W.nsIn K mainGlobals "_law_odd") (some (some (.ref (adK K "_law_odd")))),
  fun K => plainB K (adK K "_law_word"),
  fun K => PySem.W.keepIn K (.ref (adK K "_law_word")),
  fun K => He.eqO (PySem.W.nsIn K mainGlobals "_law_word") (some (some (.ref (adK K "_law_word")))),
  fun K => plainB K (adK K "_law_is_whole"),
  fun K => PySem.W.keepIn K (.ref (adK K "_law_is_whole")),
  fun K => He.eqO (PySem.W.nsIn K mainGlobals "_law_is_whole") (some (some (.ref (adK K "_law_is_whole")))),
  fun K => plainB K (adK K "_law_is_word"),
  fun K => PySem.W.keepIn K (.ref (adK K "_law_is_word")),
  fun K => He.eqO (PySem.W.nsIn K mainGlobals "_law_is_word") (some (some (.ref (adK K "_law_is_word")))),
  fun K => plainB K (adK K "_law_ahead"),
  fun K => PySem.W.keepIn K (.ref (adK K "_law_ahead")),
  fun K => He.eqO (PySem.W.nsIn K mainGlobals "_law_ahead") (some (some (.ref (adK K "_law_ahead"))))]
def facts2 : List (PySem.W.Frag → Bool) := [
  fun K => plainB K (adK K "_law_looks_right"),
  fun K => PySem.W.keepIn K (.ref (adK K "_law_looks_right")),
  fun K => He.eqO (PySem.W.nsIn K mainGlobals "_law_looks_right") (some (some (.ref (adK K "_law_looks_right")))),
  fun K => plainB K (adK K "_law_told"),
  fun K => PySem.W.keepIn K (.ref (adK K "_law_told")),
  fun K => He.eqO (PySem.W.nsIn K mainGlobals "_law_told") (some (some (.ref (adK K "_law_told")))),
  fun K => plainB K (adK K "_law_order_right"),
  fun K => PySem.W.keepIn K (.ref (adK K "_law_order_right")),
  fun K => He.eqO (PySem.W.nsIn K mainGlobals "_law_order_right") (some (some (.ref (adK K "_law_order_right")))),
  fun K => plainB K (adK K "_law_values_right"),
  fun K => PySem.W.keepIn K (.ref (adK K "_law_values_right")),
  fun K => He.eqO (PySem.W.nsIn K mainGlobals "_law_values_right") (some (some (.ref (adK K "_law_values_right")))),
  fun K => plainB K (adK K "_law_places_right"),
  fun K => PySem.W.keepIn K (.ref (adK K "_law_places_right")),
  fun K => He.eqO (PySem.W.nsIn K mainGlobals "_law_places_right") (some (some (.ref (adK K "_law_places_right")))),
  fun K => plainB K (adK K "_law_families_right"),
  fun K => PySem.W.keepIn K (.ref (adK K "_law_families_right")),
  fun K => He.eqO (PySem.W.nsIn K mainGlobals "_law_families_right") (some (some (.ref (adK K "_law_families_right")))),
  fun K => plainB K (adK K "_law_right"),
  fun K => PySem.W.keepIn K (.ref (adK K "_law_right")),
  fun K => He.eqO (PySem.W.nsIn K mainGlobals "_law_right") (some (some (.ref (adK K "_law_right")))),
  fun K => plainB K (adK K "law"),
  fun K => PySem.W.keepIn K (.ref (adK K "law")),
  fun K => He.eqO (PySem.W.nsIn K mainGlobals "law") (some (some (.ref (adK K "law")))),
  fun K => xbAll K (adK K "InvalidRow") [.type "ValueError", .type "Exception", .type "BaseException", .type "object"] "ValueError.__new__",
  fun K => xiB K (adK K "InvalidRow") (adK K "InvalidRow.__init__"),
  fun K => plainB K (adK K "InvalidRow.__init__"),
  fun K => He.eqO (PySem.W.findIn K (.ref (adK K "InvalidRow")) "value") (some none),
  fun K => He.eqO (PySem.W.nsIn K mainGlobals "InvalidRow") (some (some (.ref (adK K "InvalidRow")))),
  fun K => He.eqO (PySem.W.nsIn K mainGlobals "InvalidWord") (some (some (.ref (adK K "InvalidWord"))))]
def facts3 : List (PySem.W.Frag → Bool) := [
  fun K => He.eqO (PySem.W.nsIn K mainGlobals "InvalidBlock") (some (some (.ref (adK K "InvalidBlock")))),
  fun K => He.eqO (PySem.W.nsIn K mainGlobals "InvalidMark") (some (some (.ref (adK K "InvalidMark")))),
  fun K => He.eqO (PySem.W.nsIn K mainGlobals "MissingError") (some (some (.ref (adK K "MissingError")))),
  fun K => He.eqO (PySem.W.nsIn K mainGlobals "StateError") (some (some (.ref (adK K "StateError")))),
  fun K => He.eqO (PySem.W.nsIn K mainGlobals "LimitError") (some (some (.ref (adK K "LimitError")))),
  fun K => He.eqO (PySem.W.nsIn K mainGlobals "BarredError") (some (some (.ref (adK K "BarredError")))),
  fun K => decide (PySem.W.kitAny K (.ref (adK K "InvalidRow")) [.ref (adK K "InvalidWord"), .ref (adK K "InvalidBlock"), .ref (adK K "InvalidMark"), .ref (adK K "MissingError"), .ref (adK K "StateError"), .ref (adK K "LimitError")] = some false),
  fun K => decide (PySem.W.kitOne K (.ref (adK K "InvalidRow")) (.ref (adK K "BarredError")) = some true),
  fun K => decide (PySem.W.kitOne K (.ref (adK K "InvalidRow")) (.type "ValueError") = some true),
  fun K => decide (PySem.W.exmOne K (.ref (adK K "InvalidRow")) (.ref (adK K "InvalidRow")) = some true),
  fun K => xbAll K (adK K "InvalidSigns") [.type "ValueError", .type "Exception", .type "BaseException", .type "object"] "ValueError.__new__",
  fun K => xiB K (adK K "InvalidSigns") (adK K "InvalidSigns.__init__"),
  fun K => plainB K (adK K "InvalidSigns.__init__"),
  fun K => He.eqO (PySem.W.findIn K (.ref (adK K "InvalidSigns")) "value") (some none),
  fun K => He.eqO (PySem.W.nsIn K mainGlobals "InvalidSigns") (some (some (.ref (adK K "InvalidSigns")))),
  fun K => decide (PySem.W.kitOne K (.ref (adK K "InvalidSigns")) (.ref (adK K "BarredError")) = some true),
  fun K => decide (PySem.W.kitAny K (.ref (adK K "InvalidSigns")) [.ref (adK K "MissingError"), .ref (adK K "StateError"), .ref (adK K "LimitError"), .type "KeyError"] = some false),
  fun K => xbAll K (adK K "InvalidMedium") [.type "ValueError", .type "Exception", .type "BaseException", .type "object"] "ValueError.__new__",
  fun K => xiB K (adK K "InvalidMedium") (adK K "InvalidMedium.__init__"),
  fun K => plainB K (adK K "InvalidMedium.__init__"),
  fun K => He.eqO (PySem.W.findIn K (.ref (adK K "InvalidMedium")) "value") (some none),
  fun K => He.eqO (PySem.W.nsIn K mainGlobals "InvalidMedium") (some (some (.ref (adK K "InvalidMedium")))),
  fun K => decide (PySem.W.kitOne K (.ref (adK K "InvalidMedium")) (.ref (adK K "BarredError")) = some true),
  fun K => decide (PySem.W.kitAny K (.ref (adK K "InvalidMedium")) [.ref (adK K "MissingError"), .ref (adK K "StateError"), .ref (adK K "LimitError"), .type "KeyError"] = some false),
  fun K => xbAll K (adK K "InvalidState") [.type "ValueError", .type "Exception", .type "BaseException", .type "object"] "ValueError.__new__",
  fun K => xiB K (adK K "InvalidState") (adK K "InvalidState.__init__"),
  fun K => plainB K (adK K "InvalidState.__init__"),
  fun K => He.eqO (PySem.W.findIn K (.ref (adK K "InvalidState")) "value") (some none),
  fun K => He.eqO (PySem.W.nsIn K mainGlobals "InvalidState") (some (some (.ref (adK K "InvalidState")))),
  fun K => decide (PySem.W.kitOne K (.ref (adK K "InvalidState")) (.ref (adK K "BarredError")) = some true)]
def facts4 : List (PySem.W.Frag → Bool) := [
  fun K => decide (PySem.W.kitAny K (.ref (adK K "InvalidState")) [.ref (adK K "MissingError"), .ref (adK K "StateError"), .ref (adK K "LimitError"), .type "KeyError"] = some false),
  fun K => xbAll K (adK K "InvalidSign") [.type "ValueError", .type "Exception", .type "BaseException", .type "object"] "ValueError.__new__",
  fun K => xiB K (adK K "InvalidSign") (adK K "InvalidSign.__init__"),
  fun K => plainB K (adK K "InvalidSign.__init__"),
  fun K => He.eqO (PySem.W.findIn K (.ref (adK K "InvalidSign")) "value") (some none),
  fun K => He.eqO (PySem.W.nsIn K mainGlobals "InvalidSign") (some (some (.ref (adK K "InvalidSign")))),
  fun K => decide (PySem.W.kitOne K (.ref (adK K "InvalidSign")) (.ref (adK K "BarredError")) = some true),
  fun K => decide (PySem.W.kitAny K (.ref (adK K "InvalidSign")) [.ref (adK K "MissingError"), .ref (adK K "StateError"), .ref (adK K "LimitError"), .type "KeyError"] = some false),
  fun K => decide (PySem.W.kitAny K (.ref (adK K "InvalidRow")) [.ref (adK K "MissingError"), .ref (adK K "StateError"), .ref (adK K "LimitError"), .type "KeyError"] = some false),
  fun K => xbAll K (adK K "InvalidCount") [.type "ValueError", .type "Exception", .type "BaseException", .type "object"] "ValueError.__new__",
  fun K => xiB K (adK K "InvalidCount") (adK K "InvalidCount.__init__"),
  fun K => plainB K (adK K "InvalidCount.__init__"),
  fun K => He.eqO (PySem.W.findIn K (.ref (adK K "InvalidCount")) "value") (some none),
  fun K => He.eqO (PySem.W.nsIn K mainGlobals "InvalidCount") (some (some (.ref (adK K "InvalidCount")))),
  fun K => decide (PySem.W.kitOne K (.ref (adK K "InvalidCount")) (.ref (adK K "BarredError")) = some true),
  fun K => decide (PySem.W.kitAny K (.ref (adK K "InvalidCount")) [.ref (adK K "MissingError"), .ref (adK K "StateError"), .ref (adK K "LimitError"), .type "KeyError"] = some false),
  fun K => xbAll K (adK K "InvalidNumber") [.type "ValueError", .type "Exception", .type "BaseException", .type "object"] "ValueError.__new__",
  fun K => xiB K (adK K "InvalidNumber") (adK K "InvalidNumber.__init__"),
  fun K => plainB K (adK K "InvalidNumber.__init__"),
  fun K => He.eqO (PySem.W.findIn K (.ref (adK K "InvalidNumber")) "value") (some none),
  fun K => He.eqO (PySem.W.nsIn K mainGlobals "InvalidNumber") (some (some (.ref (adK K "InvalidNumber")))),
  fun K => decide (PySem.W.kitOne K (.ref (adK K "InvalidNumber")) (.ref (adK K "BarredError")) = some true),
  fun K => decide (PySem.W.kitAny K (.ref (adK K "InvalidNumber")) [.ref (adK K "MissingError"), .ref (adK K "StateError"), .ref (adK K "LimitError"), .type "KeyError"] = some false),
  fun K => xbAll K (adK K "InvalidRate") [.type "ValueError", .type "Exception", .type "BaseException", .type "object"] "ValueError.__new__",
  fun K => xiB K (adK K "InvalidRate") (adK K "InvalidRate.__init__"),
  fun K => plainB K (adK K "InvalidRate.__init__"),
  fun K => He.eqO (PySem.W.findIn K (.ref (adK K "InvalidRate")) "value") (some none),
  fun K => He.eqO (PySem.W.nsIn K mainGlobals "InvalidRate") (some (some (.ref (adK K "InvalidRate")))),
  fun K => decide (PySem.W.kitOne K (.ref (adK K "InvalidRate")) (.ref (adK K "BarredError")) = some true),
  fun K => decide (PySem.W.kitAny K (.ref (adK K "InvalidRate")) [.ref (adK K "MissingError"), .ref (adK K "StateError"), .ref (adK K "LimitError"), .type "KeyError"] = some false)]
def facts5 : List (PySem.W.Frag → Bool) := [
  fun K => xbAll K (adK K "InvalidPaper") [.type "ValueError", .type "Exception", .type "BaseException", .type "object"] "ValueError.__new__",
  fun K => xiB K (adK K "InvalidPaper") (adK K "InvalidPaper.__init__"),
  fun K => plainB K (adK K "InvalidPaper.__init__"),
  fun K => He.eqO (PySem.W.findIn K (.ref (adK K "InvalidPaper")) "value") (some none),
  fun K => He.eqO (PySem.W.nsIn K mainGlobals "InvalidPaper") (some (some (.ref (adK K "InvalidPaper")))),
  fun K => decide (PySem.W.kitOne K (.ref (adK K "InvalidPaper")) (.ref (adK K "BarredError")) = some true),
  fun K => decide (PySem.W.kitAny K (.ref (adK K "InvalidPaper")) [.ref (adK K "MissingError"), .ref (adK K "StateError"), .ref (adK K "LimitError"), .type "KeyError"] = some false),
  fun K => xbAll K (adK K "InvalidCoder") [.type "ValueError", .type "Exception", .type "BaseException", .type "object"] "ValueError.__new__",
  fun K => xiB K (adK K "InvalidCoder") (adK K "InvalidCoder.__init__"),
  fun K => plainB K (adK K "InvalidCoder.__init__"),
  fun K => He.eqO (PySem.W.findIn K (.ref (adK K "InvalidCoder")) "value") (some none),
  fun K => He.eqO (PySem.W.nsIn K mainGlobals "InvalidCoder") (some (some (.ref (adK K "InvalidCoder")))),
  fun K => decide (PySem.W.kitOne K (.ref (adK K "InvalidCoder")) (.ref (adK K "BarredError")) = some true),
  fun K => decide (PySem.W.kitAny K (.ref (adK K "InvalidCoder")) [.ref (adK K "MissingError"), .ref (adK K "StateError"), .ref (adK K "LimitError"), .type "KeyError"] = some false),
  fun K => xbAll K (adK K "InvalidWord") [.type "ValueError", .type "Exception", .type "BaseException", .type "object"] "ValueError.__new__",
  fun K => xiB K (adK K "InvalidWord") (adK K "InvalidWord.__init__"),
  fun K => plainB K (adK K "InvalidWord.__init__"),
  fun K => He.eqO (PySem.W.findIn K (.ref (adK K "InvalidWord")) "value") (some none),
  fun K => decide (PySem.W.kitOne K (.ref (adK K "InvalidWord")) (.ref (adK K "BarredError")) = some true),
  fun K => decide (PySem.W.kitAny K (.ref (adK K "InvalidWord")) [.ref (adK K "MissingError"), .ref (adK K "StateError"), .ref (adK K "LimitError"), .type "KeyError"] = some false),
  fun K => xbAll K (adK K "InvalidBlock") [.type "ValueError", .type "Exception", .type "BaseException", .type "object"] "ValueError.__new__",
  fun K => xiB K (adK K "InvalidBlock") (adK K "InvalidBlock.__init__"),
  fun K => plainB K (adK K "InvalidBlock.__init__"),
  fun K => He.eqO (PySem.W.findIn K (.ref (adK K "InvalidBlock")) "value") (some none),
  fun K => decide (PySem.W.kitOne K (.ref (adK K "InvalidBlock")) (.ref (adK K "BarredError")) = some true),
  fun K => decide (PySem.W.kitAny K (.ref (adK K "InvalidBlock")) [.ref (adK K "MissingError"), .ref (adK K "StateError"), .ref (adK K "LimitError"), .type "KeyError"] = some false),
  fun K => xbAll K (adK K "InvalidChoice") [.type "ValueError", .type "Exception", .type "BaseException", .type "object"] "ValueError.__new__",
  fun K => xiB K (adK K "InvalidChoice") (adK K "InvalidChoice.__init__"),
  fun K => plainB K (adK K "InvalidChoice.__init__"),
  fun K => He.eqO (PySem.W.findIn K (.ref (adK K "InvalidChoice")) "value") (some none)]
def facts6 : List (PySem.W.Frag → Bool) := [
  fun K => He.eqO (PySem.W.nsIn K mainGlobals "InvalidChoice") (some (some (.ref (adK K "InvalidChoice")))),
  fun K => decide (PySem.W.kitOne K (.ref (adK K "InvalidChoice")) (.ref (adK K "BarredError")) = some true),
  fun K => decide (PySem.W.kitAny K (.ref (adK K "InvalidChoice")) [.ref (adK K "MissingError"), .ref (adK K "StateError"), .ref (adK K "LimitError"), .type "KeyError"] = some false),
  fun K => xbAll K (adK K "InvalidMark") [.type "ValueError", .type "Exception", .type "BaseException", .type "object"] "ValueError.__new__",
  fun K => xiB K (adK K "InvalidMark") (adK K "InvalidMark.__init__"),
  fun K => plainB K (adK K "InvalidMark.__init__"),
  fun K => He.eqO (PySem.W.findIn K (.ref (adK K "InvalidMark")) "value") (some none),
  fun K => decide (PySem.W.kitOne K (.ref (adK K "InvalidMark")) (.ref (adK K "BarredError")) = some true),
  fun K => decide (PySem.W.kitAny K (.ref (adK K "InvalidMark")) [.ref (adK K "MissingError"), .ref (adK K "StateError"), .ref (adK K "LimitError"), .type "KeyError"] = some false),
  fun K => xbAll K (adK K "InvalidName") [.type "ValueError", .type "Exception", .type "BaseException", .type "object"] "ValueError.__new__",
  fun K => xiB K (adK K "InvalidName") (adK K "InvalidName.__init__"),
  fun K => plainB K (adK K "InvalidName.__init__"),
  fun K => He.eqO (PySem.W.findIn K (.ref (adK K "InvalidName")) "value") (some none),
  fun K => He.eqO (PySem.W.nsIn K mainGlobals "InvalidName") (some (some (.ref (adK K "InvalidName")))),
  fun K => decide (PySem.W.kitOne K (.ref (adK K "InvalidName")) (.ref (adK K "BarredError")) = some true),
  fun K => decide (PySem.W.kitAny K (.ref (adK K "InvalidName")) [.ref (adK K "MissingError"), .ref (adK K "StateError"), .ref (adK K "LimitError"), .type "KeyError"] = some false),
  fun K => xbAll K (adK K "InvalidThing") [.type "ValueError", .type "Exception", .type "BaseException", .type "object"] "ValueError.__new__",
  fun K => xiB K (adK K "InvalidThing") (adK K "InvalidThing.__init__"),
  fun K => plainB K (adK K "InvalidThing.__init__"),
  fun K => He.eqO (PySem.W.findIn K (.ref (adK K "InvalidThing")) "value") (some none),
  fun K => He.eqO (PySem.W.nsIn K mainGlobals "InvalidThing") (some (some (.ref (adK K "InvalidThing")))),
  fun K => decide (PySem.W.kitOne K (.ref (adK K "InvalidThing")) (.ref (adK K "BarredError")) = some true),
  fun K => decide (PySem.W.kitAny K (.ref (adK K "InvalidThing")) [.ref (adK K "MissingError"), .ref (adK K "StateError"), .ref (adK K "LimitError"), .type "KeyError"] = some false),
  fun K => xbAll K (adK K "InvalidClaim") [.type "ValueError", .type "Exception", .type "BaseException", .type "object"] "ValueError.__new__",
  fun K => xiB K (adK K "InvalidClaim") (adK K "InvalidClaim.__init__"),
  fun K => plainB K (adK K "InvalidClaim.__init__"),
  fun K => He.eqO (PySem.W.findIn K (.ref (adK K "InvalidClaim")) "value") (some none),
  fun K => He.eqO (PySem.W.nsIn K mainGlobals "InvalidClaim") (some (some (.ref (adK K "InvalidClaim")))),
  fun K => decide (PySem.W.kitOne K (.ref (adK K "InvalidClaim")) (.ref (adK K "BarredError")) = some true),
  fun K => decide (PySem.W.kitAny K (.ref (adK K "InvalidClaim")) [.ref (adK K "MissingError"), .ref (adK K "StateError"), .ref (adK K "LimitError"), .type "KeyError"] = some false)]
def facts7 : List (PySem.W.Frag → Bool) := [
  fun K => xbAll K (adK K "InvalidCommand") [.type "ValueError", .type "Exception", .type "BaseException", .type "object"] "ValueError.__new__",
  fun K => xiB K (adK K "InvalidCommand") (adK K "InvalidCommand.__init__"),
  fun K => plainB K (adK K "InvalidCommand.__init__"),
  fun K => He.eqO (PySem.W.findIn K (.ref (adK K "InvalidCommand")) "value") (some none),
  fun K => He.eqO (PySem.W.nsIn K mainGlobals "InvalidCommand") (some (some (.ref (adK K "InvalidCommand")))),
  fun K => decide (PySem.W.kitOne K (.ref (adK K "InvalidCommand")) (.ref (adK K "BarredError")) = some true),
  fun K => decide (PySem.W.kitAny K (.ref (adK K "InvalidCommand")) [.ref (adK K "MissingError"), .ref (adK K "StateError"), .ref (adK K "LimitError"), .type "KeyError"] = some false),
  fun K => decide (PySem.W.kitOne K (.ref (adK K "InvalidSigns")) (.ref (adK K "InvalidSign")) = some false),
  fun K => decide (PySem.W.kitOne K (.ref (adK K "InvalidSign")) (.ref (adK K "InvalidSigns")) = some false),
  fun K => xbAll K (adK K "InvalidTable") [.type "ValueError", .type "Exception", .type "BaseException", .type "object"] "ValueError.__new__",
  fun K => xiB K (adK K "InvalidTable") (adK K "InvalidTable.__init__"),
  fun K => He.eqO (PySem.W.nsIn K mainGlobals "InvalidTable") (some (some (.ref (adK K "InvalidTable")))),
  fun K => decide (PySem.W.kitOne K (.ref (adK K "InvalidTable")) (.ref (adK K "BarredError")) = some true),
  fun K => decide (PySem.W.kitAny K (.ref (adK K "InvalidTable")) [.ref (adK K "MissingError"), .ref (adK K "StateError"), .ref (adK K "LimitError")] = some false),
  fun K => decide (PySem.W.kitOne K (.ref (adK K "InvalidTable")) (.type "ValueError") = some true),
  fun K => plainB K (adK K "InvalidTable.__init__"),
  fun K => He.eqO (PySem.W.findIn K (.ref (adK K "InvalidTable")) "position") (some none),
  fun K => xbAll K (adK K "InvalidWords") [.type "ValueError", .type "Exception", .type "BaseException", .type "object"] "ValueError.__new__",
  fun K => xiB K (adK K "InvalidWords") (adK K "InvalidWords.__init__"),
  fun K => He.eqO (PySem.W.nsIn K mainGlobals "InvalidWords") (some (some (.ref (adK K "InvalidWords")))),
  fun K => decide (PySem.W.kitOne K (.ref (adK K "InvalidWords")) (.ref (adK K "BarredError")) = some true),
  fun K => decide (PySem.W.kitAny K (.ref (adK K "InvalidWords")) [.ref (adK K "MissingError"), .ref (adK K "StateError"), .ref (adK K "LimitError")] = some false),
  fun K => decide (PySem.W.kitOne K (.ref (adK K "InvalidWords")) (.type "ValueError") = some true),
  fun K => plainB K (adK K "InvalidWords.__init__"),
  fun K => He.eqO (PySem.W.findIn K (.ref (adK K "InvalidWords")) "position") (some none),
  fun K => xbAll K (adK K "InvalidSteps") [.type "ValueError", .type "Exception", .type "BaseException", .type "object"] "ValueError.__new__",
  fun K => xiB K (adK K "InvalidSteps") (adK K "InvalidSteps.__init__"),
  fun K => He.eqO (PySem.W.nsIn K mainGlobals "InvalidSteps") (some (some (.ref (adK K "InvalidSteps")))),
  fun K => decide (PySem.W.kitOne K (.ref (adK K "InvalidSteps")) (.ref (adK K "BarredError")) = some true),
  fun K => decide (PySem.W.kitAny K (.ref (adK K "InvalidSteps")) [.ref (adK K "MissingError"), .ref (adK K "StateError"), .ref (adK K "LimitError")] = some false)]
def facts8 : List (PySem.W.Frag → Bool) := [
  fun K => decide (PySem.W.kitOne K (.ref (adK K "InvalidSteps")) (.type "ValueError") = some true),
  fun K => plainB K (adK K "InvalidSteps.__init__"),
  fun K => He.eqO (PySem.W.findIn K (.ref (adK K "InvalidSteps")) "position") (some none),
  fun K => xbAll K (adK K "InvalidNumbers") [.type "ValueError", .type "Exception", .type "BaseException", .type "object"] "ValueError.__new__",
  fun K => xiB K (adK K "InvalidNumbers") (adK K "InvalidNumbers.__init__"),
  fun K => He.eqO (PySem.W.nsIn K mainGlobals "InvalidNumbers") (some (some (.ref (adK K "InvalidNumbers")))),
  fun K => decide (PySem.W.kitOne K (.ref (adK K "InvalidNumbers")) (.ref (adK K "BarredError")) = some true),
  fun K => decide (PySem.W.kitAny K (.ref (adK K "InvalidNumbers")) [.ref (adK K "MissingError"), .ref (adK K "StateError"), .ref (adK K "LimitError")] = some false),
  fun K => decide (PySem.W.kitOne K (.ref (adK K "InvalidNumbers")) (.type "ValueError") = some true),
  fun K => plainB K (adK K "InvalidNumbers.__init__"),
  fun K => He.eqO (PySem.W.findIn K (.ref (adK K "InvalidNumbers")) "position") (some none),
  fun K => xbAll K (adK K "InvalidText") [.type "ValueError", .type "Exception", .type "BaseException", .type "object"] "ValueError.__new__",
  fun K => xiB K (adK K "InvalidText") (adK K "InvalidText.__init__"),
  fun K => He.eqO (PySem.W.nsIn K mainGlobals "InvalidText") (some (some (.ref (adK K "InvalidText")))),
  fun K => decide (PySem.W.kitOne K (.ref (adK K "InvalidText")) (.ref (adK K "BarredError")) = some true),
  fun K => decide (PySem.W.kitAny K (.ref (adK K "InvalidText")) [.ref (adK K "MissingError"), .ref (adK K "StateError"), .ref (adK K "LimitError")] = some false),
  fun K => decide (PySem.W.kitOne K (.ref (adK K "InvalidText")) (.type "ValueError") = some true),
  fun K => plainB K (adK K "InvalidText.__init__"),
  fun K => He.eqO (PySem.W.findIn K (.ref (adK K "InvalidText")) "position") (some none),
  fun K => xbAll K (adK K "InvalidSharing") [.type "ValueError", .type "Exception", .type "BaseException", .type "object"] "ValueError.__new__",
  fun K => xiB K (adK K "InvalidSharing") (adK K "InvalidSharing.__init__"),
  fun K => He.eqO (PySem.W.nsIn K mainGlobals "InvalidSharing") (some (some (.ref (adK K "InvalidSharing")))),
  fun K => decide (PySem.W.kitOne K (.ref (adK K "InvalidSharing")) (.ref (adK K "BarredError")) = some true),
  fun K => decide (PySem.W.kitAny K (.ref (adK K "InvalidSharing")) [.ref (adK K "MissingError"), .ref (adK K "StateError"), .ref (adK K "LimitError")] = some false),
  fun K => decide (PySem.W.kitOne K (.ref (adK K "InvalidSharing")) (.type "ValueError") = some true),
  fun K => plainB K (adK K "InvalidSharing.__init__"),
  fun K => He.eqO (PySem.W.findIn K (.ref (adK K "InvalidSharing")) "position") (some none),
  fun K => xbAll K (adK K "InvalidBits") [.type "ValueError", .type "Exception", .type "BaseException", .type "object"] "ValueError.__new__",
  fun K => xiB K (adK K "InvalidBits") (adK K "InvalidBits.__init__"),
  fun K => He.eqO (PySem.W.nsIn K mainGlobals "InvalidBits") (some (some (.ref (adK K "InvalidBits"))))]
def facts9 : List (PySem.W.Frag → Bool) := [
  fun K => decide (PySem.W.kitOne K (.ref (adK K "InvalidBits")) (.ref (adK K "BarredError")) = some true),
  fun K => decide (PySem.W.kitAny K (.ref (adK K "InvalidBits")) [.ref (adK K "MissingError"), .ref (adK K "StateError"), .ref (adK K "LimitError")] = some false),
  fun K => decide (PySem.W.kitOne K (.ref (adK K "InvalidBits")) (.type "ValueError") = some true),
  fun K => plainB K (adK K "InvalidBits.__init__"),
  fun K => He.eqO (PySem.W.findIn K (.ref (adK K "InvalidBits")) "position") (some none),
  fun K => xbAll K (adK K "InvalidBounds") [.type "ValueError", .type "Exception", .type "BaseException", .type "object"] "ValueError.__new__",
  fun K => xiB K (adK K "InvalidBounds") (adK K "InvalidBounds.__init__"),
  fun K => He.eqO (PySem.W.nsIn K mainGlobals "InvalidBounds") (some (some (.ref (adK K "InvalidBounds")))),
  fun K => decide (PySem.W.kitOne K (.ref (adK K "InvalidBounds")) (.ref (adK K "BarredError")) = some true),
  fun K => decide (PySem.W.kitAny K (.ref (adK K "InvalidBounds")) [.ref (adK K "MissingError"), .ref (adK K "StateError"), .ref (adK K "LimitError")] = some false),
  fun K => decide (PySem.W.kitOne K (.ref (adK K "InvalidBounds")) (.type "ValueError") = some true),
  fun K => plainB K (adK K "InvalidBounds.__init__"),
  fun K => He.eqO (PySem.W.findIn K (.ref (adK K "InvalidBounds")) "low") (some none),
  fun K => He.eqO (PySem.W.findIn K (.ref (adK K "InvalidBounds")) "high") (some none),
  fun K => xbAll K (adK K "InvalidLimits") [.type "ValueError", .type "Exception", .type "BaseException", .type "object"] "ValueError.__new__",
  fun K => xiB K (adK K "InvalidLimits") (adK K "InvalidLimits.__init__"),
  fun K => He.eqO (PySem.W.nsIn K mainGlobals "InvalidLimits") (some (some (.ref (adK K "InvalidLimits")))),
  fun K => decide (PySem.W.kitOne K (.ref (adK K "InvalidLimits")) (.ref (adK K "BarredError")) = some true),
  fun K => decide (PySem.W.kitAny K (.ref (adK K "InvalidLimits")) [.ref (adK K "MissingError"), .ref (adK K "StateError"), .ref (adK K "LimitError")] = some false),
  fun K => decide (PySem.W.kitOne K (.ref (adK K "InvalidLimits")) (.type "ValueError") = some true),
  fun K => plainB K (adK K "InvalidLimits.__init__"),
  fun K => He.eqO (PySem.W.findIn K (.ref (adK K "InvalidLimits")) "sign") (some none),
  fun K => xbAll K (adK K "InvalidDescription") [.type "ValueError", .type "Exception", .type "BaseException", .type "object"] "ValueError.__new__",
  fun K => xiB K (adK K "InvalidDescription") (adK K "InvalidDescription.__init__"),
  fun K => He.eqO (PySem.W.nsIn K mainGlobals "InvalidDescription") (some (some (.ref (adK K "InvalidDescription")))),
  fun K => decide (PySem.W.kitOne K (.ref (adK K "InvalidDescription")) (.ref (adK K "BarredError")) = some true),
  fun K => decide (PySem.W.kitAny K (.ref (adK K "InvalidDescription")) [.ref (adK K "MissingError"), .ref (adK K "StateError"), .ref (adK K "LimitError")] = some false),
  fun K => decide (PySem.W.kitOne K (.ref (adK K "InvalidDescription")) (.type "ValueError") = some true),
  fun K => plainB K (adK K "InvalidDescription.__init__"),
  fun K => He.eqO (PySem.W.findIn K (.ref (adK K "InvalidDescription")) "line") (some none)]
def facts10 : List (PySem.W.Frag → Bool) := [
  fun K => xbAll K (adK K "UnknownWay") [.type "LookupError", .type "Exception", .type "BaseException", .type "object"] "LookupError.__new__",
  fun K => xiB K (adK K "UnknownWay") (adK K "UnknownWay.__init__"),
  fun K => He.eqO (PySem.W.nsIn K mainGlobals "UnknownWay") (some (some (.ref (adK K "UnknownWay")))),
  fun K => plainB K (adK K "UnknownWay.__init__"),
  fun K => He.eqO (PySem.W.findIn K (.ref (adK K "UnknownWay")) "state") (some none),
  fun K => He.eqO (PySem.W.findIn K (.ref (adK K "UnknownWay")) "sign") (some none),
  fun K => decide (PySem.W.kitAny K (.ref (adK K "UnknownWay")) [.type "KeyError", .type "IndexError", .ref (adK K "BarredError"), .ref (adK K "StateError")] = some false),
  fun K => decide (PySem.W.kitOne K (.ref (adK K "UnknownWay")) (.ref (adK K "MissingError")) = some true),
  fun K => decide (PySem.W.kitOne K (.ref (adK K "UnknownWay")) (.type "LookupError") = some true),
  fun K => xbAll K (adK K "UnknownName") [.type "LookupError", .type "Exception", .type "BaseException", .type "object"] "LookupError.__new__",
  fun K => xiB K (adK K "UnknownName") (adK K "UnknownName.__init__"),
  fun K => He.eqO (PySem.W.nsIn K mainGlobals "UnknownName") (some (some (.ref (adK K "UnknownName")))),
  fun K => plainB K (adK K "UnknownName.__init__"),
  fun K => He.eqO (PySem.W.findIn K (.ref (adK K "UnknownName")) "value") (some none),
  fun K => decide (PySem.W.kitAny K (.ref (adK K "UnknownName")) [.type "KeyError", .type "IndexError", .ref (adK K "BarredError"), .ref (adK K "StateError")] = some false),
  fun K => decide (PySem.W.kitOne K (.ref (adK K "UnknownName")) (.ref (adK K "MissingError")) = some true),
  fun K => decide (PySem.W.kitOne K (.ref (adK K "UnknownName")) (.type "LookupError") = some true),
  fun K => xbAll K (adK K "OtherSigns") [.type "RuntimeError", .type "Exception", .type "BaseException", .type "object"] "RuntimeError.__new__",
  fun K => xiB K (adK K "OtherSigns") (adK K "OtherSigns.__init__"),
  fun K => He.eqO (PySem.W.nsIn K mainGlobals "OtherSigns") (some (some (.ref (adK K "OtherSigns")))),
  fun K => plainB K (adK K "OtherSigns.__init__"),
  fun K => He.eqO (PySem.W.findIn K (.ref (adK K "OtherSigns")) "one") (some none),
  fun K => He.eqO (PySem.W.findIn K (.ref (adK K "OtherSigns")) "other") (some none),
  fun K => decide (PySem.W.kitAny K (.ref (adK K "OtherSigns")) [.ref (adK K "BarredError"), .ref (adK K "MissingError"), .ref (adK K "LimitError"), .type "NotImplementedError"] = some false),
  fun K => decide (PySem.W.kitOne K (.ref (adK K "OtherSigns")) (.ref (adK K "StateError")) = some true),
  fun K => decide (PySem.W.kitOne K (.ref (adK K "OtherSigns")) (.type "RuntimeError") = some true),
  fun K => xbAll K (adK K "OtherRate") [.type "RuntimeError", .type "Exception", .type "BaseException", .type "object"] "RuntimeError.__new__",
  fun K => xiB K (adK K "OtherRate") (adK K "OtherRate.__init__"),
  fun K => He.eqO (PySem.W.nsIn K mainGlobals "OtherRate") (some (some (.ref (adK K "OtherRate")))),
  fun K => plainB K (adK K "OtherRate.__init__")]
def facts11 : List (PySem.W.Frag → Bool) := [
  fun K => He.eqO (PySem.W.findIn K (.ref (adK K "OtherRate")) "one") (some none),
  fun K => He.eqO (PySem.W.findIn K (.ref (adK K "OtherRate")) "other") (some none),
  fun K => decide (PySem.W.kitAny K (.ref (adK K "OtherRate")) [.ref (adK K "BarredError"), .ref (adK K "MissingError"), .ref (adK K "LimitError"), .type "NotImplementedError"] = some false),
  fun K => decide (PySem.W.kitOne K (.ref (adK K "OtherRate")) (.ref (adK K "StateError")) = some true),
  fun K => decide (PySem.W.kitOne K (.ref (adK K "OtherRate")) (.type "RuntimeError") = some true),
  fun K => xbAll K (adK K "NoWeights") [.type "RuntimeError", .type "Exception", .type "BaseException", .type "object"] "RuntimeError.__new__",
  fun K => xiB K (adK K "NoWeights") (adK K "NoWeights.__init__"),
  fun K => He.eqO (PySem.W.nsIn K mainGlobals "NoWeights") (some (some (.ref (adK K "NoWeights")))),
  fun K => plainB K (adK K "NoWeights.__init__"),
  fun K => He.eqO (PySem.W.findIn K (.ref (adK K "NoWeights")) "paper") (some none),
  fun K => decide (PySem.W.kitAny K (.ref (adK K "NoWeights")) [.ref (adK K "BarredError"), .ref (adK K "MissingError"), .ref (adK K "LimitError"), .type "NotImplementedError"] = some false),
  fun K => decide (PySem.W.kitOne K (.ref (adK K "NoWeights")) (.ref (adK K "StateError")) = some true),
  fun K => decide (PySem.W.kitOne K (.ref (adK K "NoWeights")) (.type "RuntimeError") = some true),
  fun K => xbAll K (adK K "DoesNotFit") [.type "RuntimeError", .type "Exception", .type "BaseException", .type "object"] "RuntimeError.__new__",
  fun K => xiB K (adK K "DoesNotFit") (adK K "DoesNotFit.__init__"),
  fun K => He.eqO (PySem.W.nsIn K mainGlobals "DoesNotFit") (some (some (.ref (adK K "DoesNotFit")))),
  fun K => plainB K (adK K "DoesNotFit.__init__"),
  fun K => He.eqO (PySem.W.findIn K (.ref (adK K "DoesNotFit")) "text") (some none),
  fun K => decide (PySem.W.kitAny K (.ref (adK K "DoesNotFit")) [.ref (adK K "BarredError"), .ref (adK K "MissingError"), .ref (adK K "LimitError"), .type "NotImplementedError"] = some false),
  fun K => decide (PySem.W.kitOne K (.ref (adK K "DoesNotFit")) (.ref (adK K "StateError")) = some true),
  fun K => decide (PySem.W.kitOne K (.ref (adK K "DoesNotFit")) (.type "RuntimeError") = some true),
  fun K => xbAll K (adK K "LosesSomething") [.type "RuntimeError", .type "Exception", .type "BaseException", .type "object"] "RuntimeError.__new__",
  fun K => xiB K (adK K "LosesSomething") (adK K "LosesSomething.__init__"),
  fun K => He.eqO (PySem.W.nsIn K mainGlobals "LosesSomething") (some (some (.ref (adK K "LosesSomething")))),
  fun K => plainB K (adK K "LosesSomething.__init__"),
  fun K => He.eqO (PySem.W.findIn K (.ref (adK K "LosesSomething")) "clash") (some none),
  fun K => decide (PySem.W.kitAny K (.ref (adK K "LosesSomething")) [.ref (adK K "BarredError"), .ref (adK K "MissingError"), .ref (adK K "LimitError"), .type "NotImplementedError"] = some false),
  fun K => decide (PySem.W.kitOne K (.ref (adK K "LosesSomething")) (.ref (adK K "StateError")) = some true),
  fun K => decide (PySem.W.kitOne K (.ref (adK K "LosesSomething")) (.type "RuntimeError") = some true),
  fun K => xbAll K (adK K "Lost") [.type "RuntimeError", .type "Exception", .type "BaseException", .type "object"] "RuntimeError.__new__"]
def facts12 : List (PySem.W.Frag → Bool) := [
  fun K => xiB K (adK K "Lost") (adK K "Lost.__init__"),
  fun K => He.eqO (PySem.W.nsIn K mainGlobals "Lost") (some (some (.ref (adK K "Lost")))),
  fun K => plainB K (adK K "Lost.__init__"),
  fun K => He.eqO (PySem.W.findIn K (.ref (adK K "Lost")) "position") (some none),
  fun K => decide (PySem.W.kitAny K (.ref (adK K "Lost")) [.ref (adK K "BarredError"), .ref (adK K "MissingError"), .ref (adK K "LimitError"), .type "NotImplementedError"] = some false),
  fun K => decide (PySem.W.kitOne K (.ref (adK K "Lost")) (.ref (adK K "StateError")) = some true),
  fun K => decide (PySem.W.kitOne K (.ref (adK K "Lost")) (.type "RuntimeError") = some true),
  fun K => xbAll K (adK K "NameTaken") [.type "RuntimeError", .type "Exception", .type "BaseException", .type "object"] "RuntimeError.__new__",
  fun K => xiB K (adK K "NameTaken") (adK K "NameTaken.__init__"),
  fun K => He.eqO (PySem.W.nsIn K mainGlobals "NameTaken") (some (some (.ref (adK K "NameTaken")))),
  fun K => plainB K (adK K "NameTaken.__init__"),
  fun K => He.eqO (PySem.W.findIn K (.ref (adK K "NameTaken")) "name") (some none),
  fun K => decide (PySem.W.kitAny K (.ref (adK K "NameTaken")) [.ref (adK K "BarredError"), .ref (adK K "MissingError"), .ref (adK K "LimitError"), .type "NotImplementedError"] = some false),
  fun K => decide (PySem.W.kitOne K (.ref (adK K "NameTaken")) (.ref (adK K "StateError")) = some true),
  fun K => decide (PySem.W.kitOne K (.ref (adK K "NameTaken")) (.type "RuntimeError") = some true),
  fun K => xbAll K (adK K "CommandFailed") [.type "RuntimeError", .type "Exception", .type "BaseException", .type "object"] "RuntimeError.__new__",
  fun K => xiB K (adK K "CommandFailed") (adK K "CommandFailed.__init__"),
  fun K => He.eqO (PySem.W.nsIn K mainGlobals "CommandFailed") (some (some (.ref (adK K "CommandFailed")))),
  fun K => plainB K (adK K "CommandFailed.__init__"),
  fun K => He.eqO (PySem.W.findIn K (.ref (adK K "CommandFailed")) "position") (some none),
  fun K => decide (PySem.W.kitAny K (.ref (adK K "CommandFailed")) [.ref (adK K "BarredError"), .ref (adK K "MissingError"), .ref (adK K "LimitError"), .type "NotImplementedError"] = some false),
  fun K => decide (PySem.W.kitOne K (.ref (adK K "CommandFailed")) (.ref (adK K "StateError")) = some true),
  fun K => decide (PySem.W.kitOne K (.ref (adK K "CommandFailed")) (.type "RuntimeError") = some true),
  fun K => xbAll K (adK K "TooMany") [.type "ArithmeticError", .type "Exception", .type "BaseException", .type "object"] "ArithmeticError.__new__",
  fun K => xiB K (adK K "TooMany") (adK K "TooMany.__init__"),
  fun K => He.eqO (PySem.W.nsIn K mainGlobals "TooMany") (some (some (.ref (adK K "TooMany")))),
  fun K => plainB K (adK K "TooMany.__init__"),
  fun K => He.eqO (PySem.W.findIn K (.ref (adK K "TooMany")) "what") (some none),
  fun K => He.eqO (PySem.W.findIn K (.ref (adK K "TooMany")) "limit") (some none),
  fun K => PySem.W.excIn K (adK K "NothingLeft") [.type "RuntimeError", .type "Exception", .type "BaseException", .type "object"] "RuntimeError.__new__"]
def facts13 : List (PySem.W.Frag → Bool) := [
  fun K => PySem.W.keepIn K (.ref (adK K "NothingLeft")),
  fun K => ecB K (adK K "NothingLeft"),
  fun K => He.eqO (PySem.W.nsIn K mainGlobals "NothingLeft") (some (some (.ref (adK K "NothingLeft")))),
  fun K => decide (PySem.W.kitAny K (.ref (adK K "NothingLeft")) [.ref (adK K "BarredError"), .ref (adK K "MissingError"), .ref (adK K "LimitError"), .type "NotImplementedError"] = some false),
  fun K => decide (PySem.W.kitOne K (.ref (adK K "NothingLeft")) (.ref (adK K "StateError")) = some true),
  fun K => decide (PySem.W.kitOne K (.ref (adK K "NothingLeft")) (.type "RuntimeError") = some true),
  fun K => PySem.W.excIn K (adK K "OtherMedium") [.type "RuntimeError", .type "Exception", .type "BaseException", .type "object"] "RuntimeError.__new__",
  fun K => PySem.W.keepIn K (.ref (adK K "OtherMedium")),
  fun K => ecB K (adK K "OtherMedium"),
  fun K => He.eqO (PySem.W.nsIn K mainGlobals "OtherMedium") (some (some (.ref (adK K "OtherMedium")))),
  fun K => decide (PySem.W.kitAny K (.ref (adK K "OtherMedium")) [.ref (adK K "BarredError"), .ref (adK K "MissingError"), .ref (adK K "LimitError"), .type "NotImplementedError"] = some false),
  fun K => decide (PySem.W.kitOne K (.ref (adK K "OtherMedium")) (.ref (adK K "StateError")) = some true),
  fun K => decide (PySem.W.kitOne K (.ref (adK K "OtherMedium")) (.type "RuntimeError") = some true),
  fun K => PySem.W.excIn K (adK K "NoLookAhead") [.type "RuntimeError", .type "Exception", .type "BaseException", .type "object"] "RuntimeError.__new__",
  fun K => PySem.W.keepIn K (.ref (adK K "NoLookAhead")),
  fun K => ecB K (adK K "NoLookAhead"),
  fun K => He.eqO (PySem.W.nsIn K mainGlobals "NoLookAhead") (some (some (.ref (adK K "NoLookAhead")))),
  fun K => decide (PySem.W.kitAny K (.ref (adK K "NoLookAhead")) [.ref (adK K "BarredError"), .ref (adK K "MissingError"), .ref (adK K "LimitError"), .type "NotImplementedError"] = some false),
  fun K => decide (PySem.W.kitOne K (.ref (adK K "NoLookAhead")) (.ref (adK K "StateError")) = some true),
  fun K => decide (PySem.W.kitOne K (.ref (adK K "NoLookAhead")) (.type "RuntimeError") = some true),
  fun K => PySem.W.excIn K (adK K "NoWindow") [.type "RuntimeError", .type "Exception", .type "BaseException", .type "object"] "RuntimeError.__new__",
  fun K => PySem.W.keepIn K (.ref (adK K "NoWindow")),
  fun K => ecB K (adK K "NoWindow"),
  fun K => He.eqO (PySem.W.nsIn K mainGlobals "NoWindow") (some (some (.ref (adK K "NoWindow")))),
  fun K => decide (PySem.W.kitAny K (.ref (adK K "NoWindow")) [.ref (adK K "BarredError"), .ref (adK K "MissingError"), .ref (adK K "LimitError"), .type "NotImplementedError"] = some false),
  fun K => decide (PySem.W.kitOne K (.ref (adK K "NoWindow")) (.ref (adK K "StateError")) = some true),
  fun K => decide (PySem.W.kitOne K (.ref (adK K "NoWindow")) (.type "RuntimeError") = some true),
  fun K => PySem.W.excIn K (adK K "NotEven") [.type "RuntimeError", .type "Exception", .type "BaseException", .type "object"] "RuntimeError.__new__",
  fun K => PySem.W.keepIn K (.ref (adK K "NotEven")),
  fun K => ecB K (adK K "NotEven")]
def facts14 : List (PySem.W.Frag → Bool) := [
  fun K => He.eqO (PySem.W.nsIn K mainGlobals "NotEven") (some (some (.ref (adK K "NotEven")))),
  fun K => decide (PySem.W.kitAny K (.ref (adK K "NotEven")) [.ref (adK K "BarredError"), .ref (adK K "MissingError"), .ref (adK K "LimitError"), .type "NotImplementedError"] = some false),
  fun K => decide (PySem.W.kitOne K (.ref (adK K "NotEven")) (.ref (adK K "StateError")) = some true),
  fun K => decide (PySem.W.kitOne K (.ref (adK K "NotEven")) (.type "RuntimeError") = some true),
  fun K => PySem.W.excIn K (adK K "NothingToUndo") [.type "RuntimeError", .type "Exception", .type "BaseException", .type "object"] "RuntimeError.__new__",
  fun K => PySem.W.keepIn K (.ref (adK K "NothingToUndo")),
  fun K => ecB K (adK K "NothingToUndo"),
  fun K => He.eqO (PySem.W.nsIn K mainGlobals "NothingToUndo") (some (some (.ref (adK K "NothingToUndo")))),
  fun K => decide (PySem.W.kitAny K (.ref (adK K "NothingToUndo")) [.ref (adK K "BarredError"), .ref (adK K "MissingError"), .ref (adK K "LimitError"), .type "NotImplementedError"] = some false),
  fun K => decide (PySem.W.kitOne K (.ref (adK K "NothingToUndo")) (.ref (adK K "StateError")) = some true),
  fun K => decide (PySem.W.kitOne K (.ref (adK K "NothingToUndo")) (.type "RuntimeError") = some true),
  fun K => decide (PySem.W.kitAny K (.ref (adK K "TooMany")) [.ref (adK K "BarredError"), .ref (adK K "StateError"), .type "OverflowError"] = some false),
  fun K => decide (PySem.W.kitOne K (.ref (adK K "TooMany")) (.ref (adK K "LimitError")) = some true),
  fun K => decide (PySem.W.kitOne K (.ref (adK K "TooMany")) (.type "ArithmeticError") = some true)]
def facts : List (PySem.W.Frag → Bool) := facts0 ++ (facts1 ++ (facts2 ++ (facts3 ++ (facts4 ++ (facts5 ++ (facts6 ++ (facts7 ++ (facts8 ++ (facts9 ++ (facts10 ++ (facts11 ++ (facts12 ++ (facts13 ++ (facts14))))))))))))))
def fnd0 : List (Str × (Str × Str × Arguments × FuncBody × Scope × Addr × List (Str × Addr) × Addr)) := [
  ("is_integer", ("is_integer", "is_integer", defArgs (topS 52), .stmts (defBody (topS 52)), defScope (topS 52), mainGlobals, [], builtinsNs)),
  ("is_count", ("is_count", "is_count", defArgs (topS 53), .stmts (defBody (topS 53)), defScope (topS 53), mainGlobals, [], builtinsNs)),
  ("is_row", ("is_row", "is_row", defArgs (topS 54), .stmts (defBody (topS 54)), defScope (topS 54), mainGlobals, [], builtinsNs)),
  ("is_ahead", ("is_ahead", "is_ahead", defArgs (topS 55), .stmts (defBody (topS 55)), defScope (topS 55), mainGlobals, [], builtinsNs)),
  ("_law_pot", ("_law_pot", "_law_pot", defArgs (topS 57), .stmts (defBody (topS 57)), defScope (topS 57), mainGlobals, [], builtinsNs)),
  ("_law_draw", ("_law_draw", "_law_draw", defArgs (topS 58), .stmts (defBody (topS 58)), defScope (topS 58), mainGlobals, [], builtinsNs)),
  ("_law_pick", ("_law_pick", "_law_pick", defArgs (topS 59), .stmts (defBody (topS 59)), defScope (topS 59), mainGlobals, [], builtinsNs)),
  ("_law_odd", ("_law_odd", "_law_odd", defArgs (topS 60), .stmts (defBody (topS 60)), defScope (topS 60), mainGlobals, [], builtinsNs)),
  ("_law_word", ("_law_word", "_law_word", defArgs (topS 61), .stmts (defBody (topS 61)), defScope (topS 61), mainGlobals, [], builtinsNs)),
  ("_law_is_whole", ("_law_is_whole", "_law_is_whole", defArgs (topS 62), .stmts (defBody (topS 62)), defScope (topS 62), mainGlobals, [], builtinsNs)),
  ("_law_is_word", ("_law_is_word", "_law_is_word", defArgs (topS 63), .stmts (defBody (topS 63)), defScope (topS 63), mainGlobals, [], builtinsNs)),
  ("_law_ahead", ("_law_ahead", "_law_ahead", defArgs (topS 64), .stmts (defBody (topS 64)), defScope (topS 64), mainGlobals, [], builtinsNs)),
  ("_law_looks_right", ("_law_looks_right", "_law_looks_right", defArgs (topS 65), .stmts (defBody (topS 65)), defScope (topS 65), mainGlobals, [], builtinsNs)),
  ("_law_told", ("_law_told", "_law_told", defArgs (topS 66), .stmts (defBody (topS 66)), defScope (topS 66), mainGlobals, [], builtinsNs)),
  ("_law_order_right", ("_law_order_right", "_law_order_right", defArgs (topS 67), .stmts (defBody (topS 67)), defScope (topS 67), mainGlobals, [], builtinsNs)),
  ("_law_values_right", ("_law_values_right", "_law_values_right", defArgs (topS 68), .stmts (defBody (topS 68)), defScope (topS 68), mainGlobals, [], builtinsNs)),
  ("_law_places_right", ("_law_places_right", "_law_places_right", defArgs (topS 69), .stmts (defBody (topS 69)), defScope (topS 69), mainGlobals, [], builtinsNs)),
  ("_law_families_right", ("_law_families_right", "_law_families_right", defArgs (topS 70), .stmts (defBody (topS 70)), defScope (topS 70), mainGlobals, [], builtinsNs)),
  ("_law_right", ("_law_right", "_law_right", defArgs (topS 71), .stmts (defBody (topS 71)), defScope (topS 71), mainGlobals, [], builtinsNs)),
  ("law", ("law", "law", defArgs (topS 72), .stmts (defBody (topS 72)), defScope (topS 72), mainGlobals, [], builtinsNs)),
  ("InvalidRow.__init__", ("__init__", "InvalidRow.__init__", defArgs (inS 11), .stmts (defBody (inS 11)), defScope (inS 11), mainGlobals, [], builtinsNs)),
  ("InvalidSigns.__init__", ("__init__", "InvalidSigns.__init__", defArgs (inS 2), .stmts (defBody (inS 2)), defScope (inS 2), mainGlobals, [], builtinsNs)),
  ("InvalidMedium.__init__", ("__init__", "InvalidMedium.__init__", defArgs (inS 8), .stmts (defBody (inS 8)), defScope (inS 8), mainGlobals, [], builtinsNs)),
  ("InvalidState.__init__", ("__init__", "InvalidState.__init__", defArgs (inS 9), .stmts (defBody (inS 9)), defScope (inS 9), mainGlobals, [], builtinsNs)),
  ("InvalidSign.__init__", ("__init__", "InvalidSign.__init__", defArgs (inS 10), .stmts (defBody (inS 10)), defScope (inS 10), mainGlobals, [], builtinsNs)),
  ("InvalidCount.__init__", ("__init__", "InvalidCount.__init__", defArgs (inS 12), .stmts (defBody (inS 12)), defScope (inS 12), mainGlobals, [], builtinsNs)),
  ("InvalidNumber.__init__", ("__init__", "InvalidNumber.__init__", defArgs (inS 13), .stmts (defBody (inS 13)), defScope (inS 13), mainGlobals, [], builtinsNs)),
  ("InvalidRate.__init__", ("__init__", "InvalidRate.__init__", defArgs (inS 15), .stmts (defBody (inS 15)), defScope (inS 15), mainGlobals, [], builtinsNs)),
  ("InvalidPaper.__init__", ("__init__", "InvalidPaper.__init__", defArgs (inS 17), .stmts (defBody (inS 17)), defScope (inS 17), mainGlobals, [], builtinsNs)),
  ("InvalidCoder.__init__", ("__init__", "InvalidCoder.__init__", defArgs (inS 18), .stmts (defBody (inS 18)), defScope (inS 18), mainGlobals, [], builtinsNs))]
def fnd1 : List (Str × (Str × Str × Arguments × FuncBody × Scope × Addr × List (Str × Addr) × Addr)) := [
  ("InvalidWord.__init__", ("__init__", "InvalidWord.__init__", defArgs (inS 19), .stmts (defBody (inS 19)), defScope (inS 19), mainGlobals, [], builtinsNs)),
  ("InvalidBlock.__init__", ("__init__", "InvalidBlock.__init__", defArgs (inS 21), .stmts (defBody (inS 21)), defScope (inS 21), mainGlobals, [], builtinsNs)),
  ("InvalidChoice.__init__", ("__init__", "InvalidChoice.__init__", defArgs (inS 23), .stmts (defBody (inS 23)), defScope (inS 23), mainGlobals, [], builtinsNs)),
  ("InvalidMark.__init__", ("__init__", "InvalidMark.__init__", defArgs (inS 25), .stmts (defBody (inS 25)), defScope (inS 25), mainGlobals, [], builtinsNs)),
  ("InvalidName.__init__", ("__init__", "InvalidName.__init__", defArgs (inS 26), .stmts (defBody (inS 26)), defScope (inS 26), mainGlobals, [], builtinsNs)),
  ("InvalidThing.__init__", ("__init__", "InvalidThing.__init__", defArgs (inS 27), .stmts (defBody (inS 27)), defScope (inS 27), mainGlobals, [], builtinsNs)),
  ("InvalidClaim.__init__", ("__init__", "InvalidClaim.__init__", defArgs (inS 28), .stmts (defBody (inS 28)), defScope (inS 28), mainGlobals, [], builtinsNs)),
  ("InvalidCommand.__init__", ("__init__", "InvalidCommand.__init__", defArgs (inS 29), .stmts (defBody (inS 29)), defScope (inS 29), mainGlobals, [], builtinsNs)),
  ("InvalidTable.__init__", ("__init__", "InvalidTable.__init__", defArgs (inS 3), .stmts (defBody (inS 3)), defScope (inS 3), mainGlobals, [], builtinsNs)),
  ("InvalidWords.__init__", ("__init__", "InvalidWords.__init__", defArgs (inS 4), .stmts (defBody (inS 4)), defScope (inS 4), mainGlobals, [], builtinsNs)),
  ("InvalidSteps.__init__", ("__init__", "InvalidSteps.__init__", defArgs (inS 6), .stmts (defBody (inS 6)), defScope (inS 6), mainGlobals, [], builtinsNs)),
  ("InvalidNumbers.__init__", ("__init__", "InvalidNumbers.__init__", defArgs (inS 16), .stmts (defBody (inS 16)), defScope (inS 16), mainGlobals, [], builtinsNs)),
  ("InvalidText.__init__", ("__init__", "InvalidText.__init__", defArgs (inS 20), .stmts (defBody (inS 20)), defScope (inS 20), mainGlobals, [], builtinsNs)),
  ("InvalidSharing.__init__", ("__init__", "InvalidSharing.__init__", defArgs (inS 22), .stmts (defBody (inS 22)), defScope (inS 22), mainGlobals, [], builtinsNs)),
  ("InvalidBits.__init__", ("__init__", "InvalidBits.__init__", defArgs (inS 24), .stmts (defBody (inS 24)), defScope (inS 24), mainGlobals, [], builtinsNs)),
  ("InvalidBounds.__init__", ("__init__", "InvalidBounds.__init__", defArgs (inS 7), .stmts (defBody (inS 7)), defScope (inS 7), mainGlobals, [], builtinsNs)),
  ("InvalidLimits.__init__", ("__init__", "InvalidLimits.__init__", defArgs (inS 5), .stmts (defBody (inS 5)), defScope (inS 5), mainGlobals, [], builtinsNs)),
  ("InvalidDescription.__init__", ("__init__", "InvalidDescription.__init__", defArgs (inS 14), .stmts (defBody (inS 14)), defScope (inS 14), mainGlobals, [], builtinsNs)),
  ("UnknownWay.__init__", ("__init__", "UnknownWay.__init__", defArgs (inS 31), .stmts (defBody (inS 31)), defScope (inS 31), mainGlobals, [], builtinsNs)),
  ("UnknownName.__init__", ("__init__", "UnknownName.__init__", defArgs (inS 32), .stmts (defBody (inS 32)), defScope (inS 32), mainGlobals, [], builtinsNs)),
  ("OtherSigns.__init__", ("__init__", "OtherSigns.__init__", defArgs (inS 35), .stmts (defBody (inS 35)), defScope (inS 35), mainGlobals, [], builtinsNs)),
  ("OtherRate.__init__", ("__init__", "OtherRate.__init__", defArgs (inS 36), .stmts (defBody (inS 36)), defScope (inS 36), mainGlobals, [], builtinsNs)),
  ("NoWeights.__init__", ("__init__", "NoWeights.__init__", defArgs (inS 38), .stmts (defBody (inS 38)), defScope (inS 38), mainGlobals, [], builtinsNs)),
  ("DoesNotFit.__init__", ("__init__", "DoesNotFit.__init__", defArgs (inS 39), .stmts (defBody (inS 39)), defScope (inS 39), mainGlobals, [], builtinsNs)),
  ("LosesSomething.__init__", ("__init__", "LosesSomething.__init__", defArgs (inS 40), .stmts (defBody (inS 40)), defScope (inS 40), mainGlobals, [], builtinsNs)),
  ("Lost.__init__", ("__init__", "Lost.__init__", defArgs (inS 44), .stmts (defBody (inS 44)), defScope (inS 44), mainGlobals, [], builtinsNs)),
  ("NameTaken.__init__", ("__init__", "NameTaken.__init__", defArgs (inS 45), .stmts (defBody (inS 45)), defScope (inS 45), mainGlobals, [], builtinsNs)),
  ("CommandFailed.__init__", ("__init__", "CommandFailed.__init__", defArgs (inS 47), .stmts (defBody (inS 47)), defScope (inS 47), mainGlobals, [], builtinsNs)),
  ("TooMany.__init__", ("__init__", "TooMany.__init__", defArgs (inS 49), .stmts (defBody (inS 49)), defScope (inS 49), mainGlobals, [], builtinsNs))]
def fnd : List (Str × (Str × Str × Arguments × FuncBody × Scope × Addr × List (Str × Addr) × Addr)) := fnd0 ++ (fnd1)
abbrev AlK : Type := Bool × List He.FnW
def obsK (K : PySem.W.Frag) : AlK := (facts.all fun f => f K, fnd.map fun p => fnA K (adK K p.1))
def valK : AlK := (true, fnd.map fun p => some p.2)
def obG (g : Addr → Option Obj) : AlK := obsK (He.frG g addrs)
def hookK : PySem.W.Hook where
  α := AlK
  obs := fun s => obG s.heap.get?
  val := fun _ => valK
  says := fun _ h => ∃ K : PySem.W.Frag, K.In h ∧ obsK K = valK
  of := fun _ _ e => ⟨_, He.frG_in, e⟩
  keeps := fun _ _ _ ⟨K, hK, c⟩ k => ⟨K, PySem.W.Frag.In.keeps hK k, c⟩
def ob (s : PySem.W.SharedT) : AlK := obG (HandSHeadRun.getT s)
theorem ob_eq (s : PySem.W.SharedT) : ob s = hookK.obs s.abs := by
  have e : HandSHeadRun.getT s = s.abs.heap.get? := funext (HandSHeadRun.getT_eq s)
  show obG _ = obG _
  rw [e]
theorem fx {K : PySem.W.Frag} (c : obsK K = valK) (i : Nat) {f : PySem.W.Frag → Bool} (h : facts[i]? = some f := by rfl) : f K = true := by
  have c1 : (facts.all fun f => f K) = true := congrArg (fun z : AlK => z.1) c
  exact List.all_eq_true.mp c1 f (List.mem_of_getElem? h)
theorem fnx {K : PySem.W.Frag} (c : obsK K = valK) (i : Nat) {x : Str} {d : Str × Str × Arguments × FuncBody × Scope × Addr × List (Str × Addr) × Addr} (h : fnd[i]? = some (x, d) := by rfl) : fnA K (adK K x) = some d := by
  have e : fnd.map (fun p => fnA K (adK K p.1)) = fnd.map fun p => some p.2 := congrArg (fun z : AlK => z.2) c
  have e2 : (fnd.map fun p => fnA K (adK K p.1))[i]? = (fnd.map fun p => some p.2)[i]? := by rw [e]
  rw [List.getElem?_map, List.getElem?_map, h] at e2
  exact Option.some.inj e2
theorem sys_of {K : PySem.W.Frag} (h : (match K.lookup sysModules with | some o => decide (o.cls ≠ .type "list") | none => false) = true) : ∃ o, K.lookup sysModules = some o ∧ o.cls ≠ .type "list" := by
  cases e : K.lookup sysModules with
  | none => rw [e] at h; cases h
  | some o => rw [e] at h; exact ⟨o, rfl, of_decide_eq_true h⟩
def fdK (K : PySem.W.Frag) (x : Str) : FuncData := match K.lookup (adK K x) with
  | some ⟨_, _, .func f, _⟩ => f
  | _ => PySem.W.fnOf "" "" (defArgs sLaw) (defBody sLaw) (defScope sLaw) .none .none .none .none none .none .none
theorem fun_of {K : PySem.W.Frag} {x : Str} {st : Stmt} (e : fnA K (adK K x) = some (x, x, defArgs st, .stmts (defBody st), defScope st, mainGlobals, [], builtinsNs)) (c : plainB K (adK K x) = true) (k : PySem.W.keepIn K (.ref (adK K x)) = true) : Fun K x x st (adK K x) (fdK K x) := by
  obtain ⟨oc, od, doc, pm, an, cdv, ct, osl, ho, hc⟩ := fn_at e c
  have ef : fdK K x = PySem.W.fnOf x x (defArgs st) (defBody st) (defScope st) .none .none doc pm an cdv ct := by
    unfold fdK
    rw [ho]
  refine ⟨⟨oc, od, .none, doc, pm, an, cdv, ct, osl, ef, ?_, hc⟩, k⟩
  rw [ef]; exact ho
section
variable {K : PySem.W.Frag} {h : Heap} {mg : Str → Option Value}
theorem txK (X : K.In h) (G : h.Ns mainGlobals mg) (c : obsK K = valK) : Tx K mg (adK K) (fdK K) where
  m_isinstance := (PySem.W.mg_none_of X G (He.eqO_ok (fx c 0)))
  m_int := (PySem.W.mg_none_of X G (He.eqO_ok (fx c 1)))
  m_bool := (PySem.W.mg_none_of X G (He.eqO_ok (fx c 2)))
  m_str := (PySem.W.mg_none_of X G (He.eqO_ok (fx c 3)))
  m_all := (PySem.W.mg_none_of X G (He.eqO_ok (fx c 4)))
  m_any := (PySem.W.mg_none_of X G (He.eqO_ok (fx c 5)))
  m_len := (PySem.W.mg_none_of X G (He.eqO_ok (fx c 6)))
  m_abs := (PySem.W.mg_none_of X G (He.eqO_ok (fx c 7)))
  m_max := (PySem.W.mg_none_of X G (He.eqO_ok (fx c 8)))
  m_min := (PySem.W.mg_none_of X G (He.eqO_ok (fx c 9)))
  m_divmod := (PySem.W.mg_none_of X G (He.eqO_ok (fx c 10)))
  m_range := (PySem.W.mg_none_of X G (He.eqO_ok (fx c 11)))
  m_repr := (PySem.W.mg_none_of X G (He.eqO_ok (fx c 12)))
  m_zip := (PySem.W.mg_none_of X G (He.eqO_ok (fx c 13)))
  m_ValueError := (PySem.W.mg_none_of X G (He.eqO_ok (fx c 14)))
  m_LookupError := (PySem.W.mg_none_of X G (He.eqO_ok (fx c 15)))
  m_RuntimeError := (PySem.W.mg_none_of X G (He.eqO_ok (fx c 16)))
  m_ArithmeticError := (PySem.W.mg_none_of X G (He.eqO_ok (fx c 17)))
  m_KeyError := (PySem.W.mg_none_of X G (He.eqO_ok (fx c 18)))
  m_IndexError := (PySem.W.mg_none_of X G (He.eqO_ok (fx c 19)))
  m_OverflowError := (PySem.W.mg_none_of X G (He.eqO_ok (fx c 20)))
  m_NotImplementedError := (PySem.W.mg_none_of X G (He.eqO_ok (fx c 21)))
  sys := sys_of (fx c 22)
  g_ALL_SIGNS := He.str_ok X G (fx c 23)
  F_is_integer := (fun_of (st := topS 52) (fnx c 0) (fx c 24) (fx c 25))
  g_is_integer := (PySem.W.mg_of X G (He.eqO_ok (fx c 26)))
  b_is_integer := (fun_of (st := topS 52) (fnx c 0) (fx c 24) (fx c 25)).binds (ps := ["value"]) fun _ _ _ _ _ _ us hl => match us, hl with | [_], _ => rfl
  F_is_count := (fun_of (st := topS 53) (fnx c 1) (fx c 27) (fx c 28))
  g_is_count := (PySem.W.mg_of X G (He.eqO_ok (fx c 29)))
  b_is_count := (fun_of (st := topS 53) (fnx c 1) (fx c 27) (fx c 28)).binds (ps := ["value"]) fun _ _ _ _ _ _ us hl => match us, hl with | [_], _ => rfl
  F_is_row := (fun_of (st := topS 54) (fnx c 2) (fx c 30) (fx c 31))
  g_is_row := (PySem.W.mg_of X G (He.eqO_ok (fx c 32)))
  b_is_row := (fun_of (st := topS 54) (fnx c 2) (fx c 30) (fx c 31)).binds (ps := ["value"]) fun _ _ _ _ _ _ us hl => match us, hl with | [_], _ => rfl
  F_is_ahead := (fun_of (st := topS 55) (fnx c 3) (fx c 33) (fx c 34))
  g_is_ahead := (PySem.W.mg_of X G (He.eqO_ok (fx c 35)))
  b_is_ahead := (fun_of (st := topS 55) (fnx c 3) (fx c 33) (fx c 34)).binds (ps := ["one", "other"]) fun _ _ _ _ _ _ us hl => match us, hl with | [_, _], _ => rfl
  F__law_pot := (fun_of (st := topS 57) (fnx c 4) (fx c 36) (fx c 37))
  g__law_pot := (PySem.W.mg_of X G (He.eqO_ok (fx c 38)))
  b__law_pot := (fun_of (st := topS 57) (fnx c 4) (fx c 36) (fx c 37)).binds (ps := ["_law_script", "_law_k"]) fun _ _ _ _ _ _ us hl => match us, hl with | [_, _], _ => rfl
  F__law_draw := (fun_of (st := topS 58) (fnx c 5) (fx c 39) (fx c 40))
  g__law_draw := (PySem.W.mg_of X G (He.eqO_ok (fx c 41)))
  b__law_draw := (fun_of (st := topS 58) (fnx c 5) (fx c 39) (fx c 40)).binds (ps := ["_law_pot_here", "_law_size"]) fun _ _ _ _ _ _ us hl => match us, hl with | [_, _], _ => rfl
  F__law_pick := (fun_of (st := topS 59) (fnx c 6) (fx c 42) (fx c 43))
  g__law_pick := (PySem.W.mg_of X G (He.eqO_ok (fx c 44)))
  b__law_pick := (fun_of (st := topS 59) (fnx c 6) (fx c 42) (fx c 43)).binds (ps := ["_law_pot_here", "_law_some"]) fun _ _ _ _ _ _ us hl => match us, hl with | [_, _], _ => rfl
  F__law_odd := (fun_of (st := topS 60) (fnx c 7) (fx c 45) (fx c 46))
  g__law_odd := (PySem.W.mg_of X G (He.eqO_ok (fx c 47)))
  b__law_odd := (fun_of (st := topS 60) (fnx c 7) (fx c 45) (fx c 46)).binds (ps := ["_law_pot_here"]) fun _ _ _ _ _ _ us hl => match us, hl with | [_], _ => rfl
  F__law_word := (fun_of (st := topS 61) (fnx c 8) (fx c 48) (fx c 49))
  g__law_word := (PySem.W.mg_of X G (He.eqO_ok (fx c 50)))
  b__law_word := (fun_of (st := topS 61) (fnx c 8) (fx c 48) (fx c 49)).binds (ps := ["_law_pot_here"]) fun _ _ _ _ _ _ us hl => match us, hl with | [_], _ => rfl
  F__law_is_whole := (fun_of (st := topS 62) (fnx c 9) (fx c 51) (fx c 52))
  g__law_is_whole := (PySem.W.mg_of X G (He.eqO_ok (fx c 53)))
  b__law_is_whole := (fun_of (st := topS 62) (fnx c 9) (fx c 51) (fx c 52)).binds (ps := ["_law_thing"]) fun _ _ _ _ _ _ us hl => match us, hl with | [_], _ => rfl
  F__law_is_word := (fun_of (st := topS 63) (fnx c 10) (fx c 54) (fx c 55))
  g__law_is_word := (PySem.W.mg_of X G (He.eqO_ok (fx c 56)))
  b__law_is_word := (fun_of (st := topS 63) (fnx c 10) (fx c 54) (fx c 55)).binds (ps := ["_law_thing"]) fun _ _ _ _ _ _ us hl => match us, hl with | [_], _ => rfl
  F__law_ahead := (fun_of (st := topS 64) (fnx c 11) (fx c 57) (fx c 58))
  g__law_ahead := (PySem.W.mg_of X G (He.eqO_ok (fx c 59)))
  b__law_ahead := (fun_of (st := topS 64) (fnx c 11) (fx c 57) (fx c 58)).binds (ps := ["_law_near", "_law_far"]) fun _ _ _ _ _ _ us hl => match us, hl with | [_, _], _ => rfl
  F__law_looks_right := (fun_of (st := topS 65) (fnx c 12) (fx c 60) (fx c 61))
  g__law_looks_right := (PySem.W.mg_of X G (He.eqO_ok (fx c 62)))
  b__law_looks_right := (fun_of (st := topS 65) (fnx c 12) (fx c 60) (fx c 61)).binds (ps := ["_law_thing"]) fun _ _ _ _ _ _ us hl => match us, hl with | [_], _ => rfl
  F__law_told := (fun_of (st := topS 66) (fnx c 13) (fx c 63) (fx c 64))
  g__law_told := (PySem.W.mg_of X G (He.eqO_ok (fx c 65)))
  b__law_told := (fun_of (st := topS 66) (fnx c 13) (fx c 63) (fx c 64)).binds (ps := ["_law_near", "_law_far"]) fun _ _ _ _ _ _ us hl => match us, hl with | [_, _], _ => rfl
  F__law_order_right := (fun_of (st := topS 67) (fnx c 14) (fx c 66) (fx c 67))
  g__law_order_right := (PySem.W.mg_of X G (He.eqO_ok (fx c 68)))
  b__law_order_right := (fun_of (st := topS 67) (fnx c 14) (fx c 66) (fx c 67)).binds (ps := ["_law_near", "_law_far"]) fun _ _ _ _ _ _ us hl => match us, hl with | [_, _], _ => rfl
  F__law_values_right := (fun_of (st := topS 68) (fnx c 15) (fx c 69) (fx c 70))
  g__law_values_right := (PySem.W.mg_of X G (He.eqO_ok (fx c 71)))
  b__law_values_right := (fun_of (st := topS 68) (fnx c 15) (fx c 69) (fx c 70)).binds (ps := ["_law_thing"]) fun _ _ _ _ _ _ us hl => match us, hl with | [_], _ => rfl
  F__law_places_right := (fun_of (st := topS 69) (fnx c 16) (fx c 72) (fx c 73))
  g__law_places_right := (PySem.W.mg_of X G (He.eqO_ok (fx c 74)))
  b__law_places_right := (fun_of (st := topS 69) (fnx c 16) (fx c 72) (fx c 73)).binds (ps := ["_law_thing"]) fun _ _ _ _ _ _ us hl => match us, hl with | [_], _ => rfl
  F__law_families_right := (fun_of (st := topS 70) (fnx c 17) (fx c 75) (fx c 76))
  g__law_families_right := (PySem.W.mg_of X G (He.eqO_ok (fx c 77)))
  b__law_families_right := (fun_of (st := topS 70) (fnx c 17) (fx c 75) (fx c 76)).binds (ps := ["_law_thing"]) fun _ _ _ _ _ _ us hl => match us, hl with | [_], _ => rfl
  F__law_right := (fun_of (st := topS 71) (fnx c 18) (fx c 78) (fx c 79))
  g__law_right := (PySem.W.mg_of X G (He.eqO_ok (fx c 80)))
  b__law_right := (fun_of (st := topS 71) (fnx c 18) (fx c 78) (fx c 79)).binds (ps := ["_law_pot_here"]) fun _ _ _ _ _ _ us hl => match us, hl with | [_], _ => rfl
  F_law := (fun_of (st := topS 72) (fnx c 19) (fx c 81) (fx c 82))
  g_law := (PySem.W.mg_of X G (He.eqO_ok (fx c 83)))
  b_law := (fun_of (st := topS 72) (fnx c 19) (fx c 81) (fx c 82)).binds (ps := ["_law_script"]) fun _ _ _ _ _ _ us hl => match us, hl with | [_], _ => rfl
theorem rowC (X : K.In h) (G : h.Ns mainGlobals mg) (c : obsK K = valK) : RowC K mg (adK K) where
  T := (xb_of (fx c 84))
  J := (xi_of (fx c 85))
  F := (by
    obtain ⟨oc, od, doc, pm, an, cdv, ct, osl, ho, hc⟩ := fn_at (fnx c 20) (fx c 86)
    exact ⟨He.eqO_ok (fx c 87), oc, od, doc, pm, an, cdv, ct, osl, _, _, _, _, _, _, _, ho, hc⟩)
  G := (PySem.W.mg_of X G (He.eqO_ok (fx c 88)))
theorem tellC (X : K.In h) (G : h.Ns mainGlobals mg) (c : obsK K = valK) : TellC K mg (adK K) where
  R := rowC X G c
  g1 := (PySem.W.mg_of X G (He.eqO_ok (fx c 89)))
  g2 := (PySem.W.mg_of X G (He.eqO_ok (fx c 90)))
  g3 := (PySem.W.mg_of X G (He.eqO_ok (fx c 91)))
  g4 := (PySem.W.mg_of X G (He.eqO_ok (fx c 92)))
  g5 := (PySem.W.mg_of X G (He.eqO_ok (fx c 93)))
  g6 := (PySem.W.mg_of X G (He.eqO_ok (fx c 94)))
  gB := (PySem.W.mg_of X G (He.eqO_ok (fx c 95)))
  none := (of_decide_eq_true (fx c 96))
  bar := (of_decide_eq_true (fx c 97))
  val := (of_decide_eq_true (fx c 98))
  exm := (of_decide_eq_true (fx c 99))
theorem valC (X : K.In h) (G : h.Ns mainGlobals mg) (c : obsK K = valK) : ValC K mg (adK K) where
  c0 := ⟨(xb_of (fx c 100)), (xi_of (fx c 101)), (by
    obtain ⟨oc, od, doc, pm, an, cdv, ct, osl, ho, hc⟩ := fn_at (fnx c 21) (fx c 102)
    exact ⟨He.eqO_ok (fx c 103), oc, od, doc, pm, an, cdv, ct, osl, _, _, _, _, _, _, _, ho, hc⟩), (PySem.W.mg_of X G (He.eqO_ok (fx c 104))), (of_decide_eq_true (fx c 105)), (of_decide_eq_true (fx c 106))⟩
  c1 := ⟨(xb_of (fx c 107)), (xi_of (fx c 108)), (by
    obtain ⟨oc, od, doc, pm, an, cdv, ct, osl, ho, hc⟩ := fn_at (fnx c 22) (fx c 109)
    exact ⟨He.eqO_ok (fx c 110), oc, od, doc, pm, an, cdv, ct, osl, _, _, _, _, _, _, _, ho, hc⟩), (PySem.W.mg_of X G (He.eqO_ok (fx c 111))), (of_decide_eq_true (fx c 112)), (of_decide_eq_true (fx c 113))⟩
  c2 := ⟨(xb_of (fx c 114)), (xi_of (fx c 115)), (by
    obtain ⟨oc, od, doc, pm, an, cdv, ct, osl, ho, hc⟩ := fn_at (fnx c 23) (fx c 116)
    exact ⟨He.eqO_ok (fx c 117), oc, od, doc, pm, an, cdv, ct, osl, _, _, _, _, _, _, _, ho, hc⟩), (PySem.W.mg_of X G (He.eqO_ok (fx c 118))), (of_decide_eq_true (fx c 119)), (of_decide_eq_true (fx c 120))⟩
  c3 := ⟨(xb_of (fx c 121)), (xi_of (fx c 122)), (by
    obtain ⟨oc, od, doc, pm, an, cdv, ct, osl, ho, hc⟩ := fn_at (fnx c 24) (fx c 123)
    exact ⟨He.eqO_ok (fx c 124), oc, od, doc, pm, an, cdv, ct, osl, _, _, _, _, _, _, _, ho, hc⟩), (PySem.W.mg_of X G (He.eqO_ok (fx c 125))), (of_decide_eq_true (fx c 126)), (of_decide_eq_true (fx c 127))⟩
  c4 := ⟨(xb_of (fx c 84)), (xi_of (fx c 85)), (by
    obtain ⟨oc, od, doc, pm, an, cdv, ct, osl, ho, hc⟩ := fn_at (fnx c 20) (fx c 86)
    exact ⟨He.eqO_ok (fx c 87), oc, od, doc, pm, an, cdv, ct, osl, _, _, _, _, _, _, _, ho, hc⟩), (PySem.W.mg_of X G (He.eqO_ok (fx c 88))), (of_decide_eq_true (fx c 97)), (of_decide_eq_true (fx c 128))⟩
  c5 := ⟨(xb_of (fx c 129)), (xi_of (fx c 130)), (by
    obtain ⟨oc, od, doc, pm, an, cdv, ct, osl, ho, hc⟩ := fn_at (fnx c 25) (fx c 131)
    exact ⟨He.eqO_ok (fx c 132), oc, od, doc, pm, an, cdv, ct, osl, _, _, _, _, _, _, _, ho, hc⟩), (PySem.W.mg_of X G (He.eqO_ok (fx c 133))), (of_decide_eq_true (fx c 134)), (of_decide_eq_true (fx c 135))⟩
  c6 := ⟨(xb_of (fx c 136)), (xi_of (fx c 137)), (by
    obtain ⟨oc, od, doc, pm, an, cdv, ct, osl, ho, hc⟩ := fn_at (fnx c 26) (fx c 138)
    exact ⟨He.eqO_ok (fx c 139), oc, od, doc, pm, an, cdv, ct, osl, _, _, _, _, _, _, _, ho, hc⟩), (PySem.W.mg_of X G (He.eqO_ok (fx c 140))), (of_decide_eq_true (fx c 141)), (of_decide_eq_true (fx c 142))⟩
  c7 := ⟨(xb_of (fx c 143)), (xi_of (fx c 144)), (by
    obtain ⟨oc, od, doc, pm, an, cdv, ct, osl, ho, hc⟩ := fn_at (fnx c 27) (fx c 145)
    exact ⟨He.eqO_ok (fx c 146), oc, od, doc, pm, an, cdv, ct, osl, _, _, _, _, _, _, _, ho, hc⟩), (PySem.W.mg_of X G (He.eqO_ok (fx c 147))), (of_decide_eq_true (fx c 148)), (of_decide_eq_true (fx c 149))⟩
  c8 := ⟨(xb_of (fx c 150)), (xi_of (fx c 151)), (by
    obtain ⟨oc, od, doc, pm, an, cdv, ct, osl, ho, hc⟩ := fn_at (fnx c 28) (fx c 152)
    exact ⟨He.eqO_ok (fx c 153), oc, od, doc, pm, an, cdv, ct, osl, _, _, _, _, _, _, _, ho, hc⟩), (PySem.W.mg_of X G (He.eqO_ok (fx c 154))), (of_decide_eq_true (fx c 155)), (of_decide_eq_true (fx c 156))⟩
  c9 := ⟨(xb_of (fx c 157)), (xi_of (fx c 158)), (by
    obtain ⟨oc, od, doc, pm, an, cdv, ct, osl, ho, hc⟩ := fn_at (fnx c 29) (fx c 159)
    exact ⟨He.eqO_ok (fx c 160), oc, od, doc, pm, an, cdv, ct, osl, _, _, _, _, _, _, _, ho, hc⟩), (PySem.W.mg_of X G (He.eqO_ok (fx c 161))), (of_decide_eq_true (fx c 162)), (of_decide_eq_true (fx c 163))⟩
  c10 := ⟨(xb_of (fx c 164)), (xi_of (fx c 165)), (by
    obtain ⟨oc, od, doc, pm, an, cdv, ct, osl, ho, hc⟩ := fn_at (fnx c 30) (fx c 166)
    exact ⟨He.eqO_ok (fx c 167), oc, od, doc, pm, an, cdv, ct, osl, _, _, _, _, _, _, _, ho, hc⟩), (PySem.W.mg_of X G (He.eqO_ok (fx c 89))), (of_decide_eq_true (fx c 168)), (of_decide_eq_true (fx c 169))⟩
  c11 := ⟨(xb_of (fx c 170)), (xi_of (fx c 171)), (by
    obtain ⟨oc, od, doc, pm, an, cdv, ct, osl, ho, hc⟩ := fn_at (fnx c 31) (fx c 172)
    exact ⟨He.eqO_ok (fx c 173), oc, od, doc, pm, an, cdv, ct, osl, _, _, _, _, _, _, _, ho, hc⟩), (PySem.W.mg_of X G (He.eqO_ok (fx c 90))), (of_decide_eq_true (fx c 174)), (of_decide_eq_true (fx c 175))⟩
  c12 := ⟨(xb_of (fx c 176)), (xi_of (fx c 177)), (by
    obtain ⟨oc, od, doc, pm, an, cdv, ct, osl, ho, hc⟩ := fn_at (fnx c 32) (fx c 178)
    exact ⟨He.eqO_ok (fx c 179), oc, od, doc, pm, an, cdv, ct, osl, _, _, _, _, _, _, _, ho, hc⟩), (PySem.W.mg_of X G (He.eqO_ok (fx c 180))), (of_decide_eq_true (fx c 181)), (of_decide_eq_true (fx c 182))⟩
  c13 := ⟨(xb_of (fx c 183)), (xi_of (fx c 184)), (by
    obtain ⟨oc, od, doc, pm, an, cdv, ct, osl, ho, hc⟩ := fn_at (fnx c 33) (fx c 185)
    exact ⟨He.eqO_ok (fx c 186), oc, od, doc, pm, an, cdv, ct, osl, _, _, _, _, _, _, _, ho, hc⟩), (PySem.W.mg_of X G (He.eqO_ok (fx c 91))), (of_decide_eq_true (fx c 187)), (of_decide_eq_true (fx c 188))⟩
  c14 := ⟨(xb_of (fx c 189)), (xi_of (fx c 190)), (by
    obtain ⟨oc, od, doc, pm, an, cdv, ct, osl, ho, hc⟩ := fn_at (fnx c 34) (fx c 191)
    exact ⟨He.eqO_ok (fx c 192), oc, od, doc, pm, an, cdv, ct, osl, _, _, _, _, _, _, _, ho, hc⟩), (PySem.W.mg_of X G (He.eqO_ok (fx c 193))), (of_decide_eq_true (fx c 194)), (of_decide_eq_true (fx c 195))⟩
  c15 := ⟨(xb_of (fx c 196)), (xi_of (fx c 197)), (by
    obtain ⟨oc, od, doc, pm, an, cdv, ct, osl, ho, hc⟩ := fn_at (fnx c 35) (fx c 198)
    exact ⟨He.eqO_ok (fx c 199), oc, od, doc, pm, an, cdv, ct, osl, _, _, _, _, _, _, _, ho, hc⟩), (PySem.W.mg_of X G (He.eqO_ok (fx c 200))), (of_decide_eq_true (fx c 201)), (of_decide_eq_true (fx c 202))⟩
  c16 := ⟨(xb_of (fx c 203)), (xi_of (fx c 204)), (by
    obtain ⟨oc, od, doc, pm, an, cdv, ct, osl, ho, hc⟩ := fn_at (fnx c 36) (fx c 205)
    exact ⟨He.eqO_ok (fx c 206), oc, od, doc, pm, an, cdv, ct, osl, _, _, _, _, _, _, _, ho, hc⟩), (PySem.W.mg_of X G (He.eqO_ok (fx c 207))), (of_decide_eq_true (fx c 208)), (of_decide_eq_true (fx c 209))⟩
  c17 := ⟨(xb_of (fx c 210)), (xi_of (fx c 211)), (by
    obtain ⟨oc, od, doc, pm, an, cdv, ct, osl, ho, hc⟩ := fn_at (fnx c 37) (fx c 212)
    exact ⟨He.eqO_ok (fx c 213), oc, od, doc, pm, an, cdv, ct, osl, _, _, _, _, _, _, _, ho, hc⟩), (PySem.W.mg_of X G (He.eqO_ok (fx c 214))), (of_decide_eq_true (fx c 215)), (of_decide_eq_true (fx c 216))⟩
  gB := (PySem.W.mg_of X G (He.eqO_ok (fx c 95)))
  gM := (PySem.W.mg_of X G (He.eqO_ok (fx c 92)))
  gS := (PySem.W.mg_of X G (He.eqO_ok (fx c 93)))
  gL := (PySem.W.mg_of X G (He.eqO_ok (fx c 94)))
  n1 := (of_decide_eq_true (fx c 217))
  n2 := (of_decide_eq_true (fx c 218))
theorem plaC (X : K.In h) (G : h.Ns mainGlobals mg) (c : obsK K = valK) : PlaC K mg (adK K) where
  p0 := ⟨(xb_of (fx c 219)), (xi_of (fx c 220)), (PySem.W.mg_of X G (He.eqO_ok (fx c 221))), (of_decide_eq_true (fx c 222)), (of_decide_eq_true (fx c 223)), (of_decide_eq_true (fx c 224))⟩
  f0 := (by
    obtain ⟨oc, od, doc, pm, an, cdv, ct, osl, ho, hc⟩ := fn_at (fnx c 38) (fx c 225)
    exact ⟨He.eqO_ok (fx c 226), oc, od, doc, pm, an, cdv, ct, osl, _, _, _, _, _, _, _, ho, hc⟩)
  p1 := ⟨(xb_of (fx c 227)), (xi_of (fx c 228)), (PySem.W.mg_of X G (He.eqO_ok (fx c 229))), (of_decide_eq_true (fx c 230)), (of_decide_eq_true (fx c 231)), (of_decide_eq_true (fx c 232))⟩
  f1 := (by
    obtain ⟨oc, od, doc, pm, an, cdv, ct, osl, ho, hc⟩ := fn_at (fnx c 39) (fx c 233)
    exact ⟨He.eqO_ok (fx c 234), oc, od, doc, pm, an, cdv, ct, osl, _, _, _, _, _, _, _, ho, hc⟩)
  p2 := ⟨(xb_of (fx c 235)), (xi_of (fx c 236)), (PySem.W.mg_of X G (He.eqO_ok (fx c 237))), (of_decide_eq_true (fx c 238)), (of_decide_eq_true (fx c 239)), (of_decide_eq_true (fx c 240))⟩
  f2 := (by
    obtain ⟨oc, od, doc, pm, an, cdv, ct, osl, ho, hc⟩ := fn_at (fnx c 40) (fx c 241)
    exact ⟨He.eqO_ok (fx c 242), oc, od, doc, pm, an, cdv, ct, osl, _, _, _, _, _, _, _, ho, hc⟩)
  p3 := ⟨(xb_of (fx c 243)), (xi_of (fx c 244)), (PySem.W.mg_of X G (He.eqO_ok (fx c 245))), (of_decide_eq_true (fx c 246)), (of_decide_eq_true (fx c 247)), (of_decide_eq_true (fx c 248))⟩
  f3 := (by
    obtain ⟨oc, od, doc, pm, an, cdv, ct, osl, ho, hc⟩ := fn_at (fnx c 41) (fx c 249)
    exact ⟨He.eqO_ok (fx c 250), oc, od, doc, pm, an, cdv, ct, osl, _, _, _, _, _, _, _, ho, hc⟩)
  p4 := ⟨(xb_of (fx c 251)), (xi_of (fx c 252)), (PySem.W.mg_of X G (He.eqO_ok (fx c 253))), (of_decide_eq_true (fx c 254)), (of_decide_eq_true (fx c 255)), (of_decide_eq_true (fx c 256))⟩
  f4 := (by
    obtain ⟨oc, od, doc, pm, an, cdv, ct, osl, ho, hc⟩ := fn_at (fnx c 42) (fx c 257)
    exact ⟨He.eqO_ok (fx c 258), oc, od, doc, pm, an, cdv, ct, osl, _, _, _, _, _, _, _, ho, hc⟩)
  p5 := ⟨(xb_of (fx c 259)), (xi_of (fx c 260)), (PySem.W.mg_of X G (He.eqO_ok (fx c 261))), (of_decide_eq_true (fx c 262)), (of_decide_eq_true (fx c 263)), (of_decide_eq_true (fx c 264))⟩
  f5 := (by
    obtain ⟨oc, od, doc, pm, an, cdv, ct, osl, ho, hc⟩ := fn_at (fnx c 43) (fx c 265)
    exact ⟨He.eqO_ok (fx c 266), oc, od, doc, pm, an, cdv, ct, osl, _, _, _, _, _, _, _, ho, hc⟩)
  p6 := ⟨(xb_of (fx c 267)), (xi_of (fx c 268)), (PySem.W.mg_of X G (He.eqO_ok (fx c 269))), (of_decide_eq_true (fx c 270)), (of_decide_eq_true (fx c 271)), (of_decide_eq_true (fx c 272))⟩
  f6 := (by
    obtain ⟨oc, od, doc, pm, an, cdv, ct, osl, ho, hc⟩ := fn_at (fnx c 44) (fx c 273)
    exact ⟨He.eqO_ok (fx c 274), oc, od, doc, pm, an, cdv, ct, osl, _, _, _, _, _, _, _, ho, hc⟩)
  b := ⟨(xb_of (fx c 275)), (xi_of (fx c 276)), (PySem.W.mg_of X G (He.eqO_ok (fx c 277))), (of_decide_eq_true (fx c 278)), (of_decide_eq_true (fx c 279)), (of_decide_eq_true (fx c 280))⟩
  fb := (by
    obtain ⟨oc, od, doc, pm, an, cdv, ct, osl, ho, hc⟩ := fn_at (fnx c 45) (fx c 281)
    exact ⟨He.eqO_ok (fx c 282), He.eqO_ok (fx c 283), oc, od, doc, pm, an, cdv, ct, osl, _, _, _, _, _, _, _, _, _, _, _, _, ho, hc⟩)
  l := ⟨(xb_of (fx c 284)), (xi_of (fx c 285)), (PySem.W.mg_of X G (He.eqO_ok (fx c 286))), (of_decide_eq_true (fx c 287)), (of_decide_eq_true (fx c 288)), (of_decide_eq_true (fx c 289))⟩
  fl := (by
    obtain ⟨oc, od, doc, pm, an, cdv, ct, osl, ho, hc⟩ := fn_at (fnx c 46) (fx c 290)
    exact ⟨He.eqO_ok (fx c 291), oc, od, doc, pm, an, cdv, ct, osl, _, _, _, _, _, _, _, ho, hc⟩)
  dd := ⟨(xb_of (fx c 292)), (xi_of (fx c 293)), (PySem.W.mg_of X G (He.eqO_ok (fx c 294))), (of_decide_eq_true (fx c 295)), (of_decide_eq_true (fx c 296)), (of_decide_eq_true (fx c 297))⟩
  fd := (by
    obtain ⟨oc, od, doc, pm, an, cdv, ct, osl, ho, hc⟩ := fn_at (fnx c 47) (fx c 298)
    exact ⟨He.eqO_ok (fx c 299), oc, od, doc, pm, an, cdv, ct, osl, _, _, _, _, _, _, _, ho, hc⟩)
  gB := (PySem.W.mg_of X G (He.eqO_ok (fx c 95)))
  gM := (PySem.W.mg_of X G (He.eqO_ok (fx c 92)))
  gS := (PySem.W.mg_of X G (He.eqO_ok (fx c 93)))
  gL := (PySem.W.mg_of X G (He.eqO_ok (fx c 94)))
theorem famC (X : K.In h) (G : h.Ns mainGlobals mg) (c : obsK K = valK) : FamC K mg (adK K) where
  cUnknownWay := ⟨(xb_of (fx c 300)), (xi_of (fx c 301)), (PySem.W.mg_of X G (He.eqO_ok (fx c 302)))⟩
  fUnknownWay := (by
    obtain ⟨oc, od, doc, pm, an, cdv, ct, osl, ho, hc⟩ := fn_at (fnx c 48) (fx c 303)
    exact ⟨He.eqO_ok (fx c 304), He.eqO_ok (fx c 305), oc, od, doc, pm, an, cdv, ct, osl, _, _, _, _, _, _, _, _, _, _, _, _, ho, hc⟩)
  sUnknownWay := ⟨(of_decide_eq_true (fx c 306)), (of_decide_eq_true (fx c 307)), (of_decide_eq_true (fx c 308))⟩
  cUnknownName := ⟨(xb_of (fx c 309)), (xi_of (fx c 310)), (PySem.W.mg_of X G (He.eqO_ok (fx c 311)))⟩
  fUnknownName := (by
    obtain ⟨oc, od, doc, pm, an, cdv, ct, osl, ho, hc⟩ := fn_at (fnx c 49) (fx c 312)
    exact ⟨He.eqO_ok (fx c 313), oc, od, doc, pm, an, cdv, ct, osl, _, _, _, _, _, _, _, ho, hc⟩)
  sUnknownName := ⟨(of_decide_eq_true (fx c 314)), (of_decide_eq_true (fx c 315)), (of_decide_eq_true (fx c 316))⟩
  cOtherSigns := ⟨(xb_of (fx c 317)), (xi_of (fx c 318)), (PySem.W.mg_of X G (He.eqO_ok (fx c 319)))⟩
  fOtherSigns := (by
    obtain ⟨oc, od, doc, pm, an, cdv, ct, osl, ho, hc⟩ := fn_at (fnx c 50) (fx c 320)
    exact ⟨He.eqO_ok (fx c 321), He.eqO_ok (fx c 322), oc, od, doc, pm, an, cdv, ct, osl, _, _, _, _, _, _, _, _, _, _, _, _, ho, hc⟩)
  sOtherSigns := ⟨(of_decide_eq_true (fx c 323)), (of_decide_eq_true (fx c 324)), (of_decide_eq_true (fx c 325))⟩
  cOtherRate := ⟨(xb_of (fx c 326)), (xi_of (fx c 327)), (PySem.W.mg_of X G (He.eqO_ok (fx c 328)))⟩
  fOtherRate := (by
    obtain ⟨oc, od, doc, pm, an, cdv, ct, osl, ho, hc⟩ := fn_at (fnx c 51) (fx c 329)
    exact ⟨He.eqO_ok (fx c 330), He.eqO_ok (fx c 331), oc, od, doc, pm, an, cdv, ct, osl, _, _, _, _, _, _, _, _, _, _, _, _, ho, hc⟩)
  sOtherRate := ⟨(of_decide_eq_true (fx c 332)), (of_decide_eq_true (fx c 333)), (of_decide_eq_true (fx c 334))⟩
  cNoWeights := ⟨(xb_of (fx c 335)), (xi_of (fx c 336)), (PySem.W.mg_of X G (He.eqO_ok (fx c 337)))⟩
  fNoWeights := (by
    obtain ⟨oc, od, doc, pm, an, cdv, ct, osl, ho, hc⟩ := fn_at (fnx c 52) (fx c 338)
    exact ⟨He.eqO_ok (fx c 339), oc, od, doc, pm, an, cdv, ct, osl, _, _, _, _, _, _, _, ho, hc⟩)
  sNoWeights := ⟨(of_decide_eq_true (fx c 340)), (of_decide_eq_true (fx c 341)), (of_decide_eq_true (fx c 342))⟩
  cDoesNotFit := ⟨(xb_of (fx c 343)), (xi_of (fx c 344)), (PySem.W.mg_of X G (He.eqO_ok (fx c 345)))⟩
  fDoesNotFit := (by
    obtain ⟨oc, od, doc, pm, an, cdv, ct, osl, ho, hc⟩ := fn_at (fnx c 53) (fx c 346)
    exact ⟨He.eqO_ok (fx c 347), oc, od, doc, pm, an, cdv, ct, osl, _, _, _, _, _, _, _, ho, hc⟩)
  sDoesNotFit := ⟨(of_decide_eq_true (fx c 348)), (of_decide_eq_true (fx c 349)), (of_decide_eq_true (fx c 350))⟩
  cLosesSomething := ⟨(xb_of (fx c 351)), (xi_of (fx c 352)), (PySem.W.mg_of X G (He.eqO_ok (fx c 353)))⟩
  fLosesSomething := (by
    obtain ⟨oc, od, doc, pm, an, cdv, ct, osl, ho, hc⟩ := fn_at (fnx c 54) (fx c 354)
    exact ⟨He.eqO_ok (fx c 355), oc, od, doc, pm, an, cdv, ct, osl, _, _, _, _, _, _, _, ho, hc⟩)
  sLosesSomething := ⟨(of_decide_eq_true (fx c 356)), (of_decide_eq_true (fx c 357)), (of_decide_eq_true (fx c 358))⟩
  cLost := ⟨(xb_of (fx c 359)), (xi_of (fx c 360)), (PySem.W.mg_of X G (He.eqO_ok (fx c 361)))⟩
  fLost := (by
    obtain ⟨oc, od, doc, pm, an, cdv, ct, osl, ho, hc⟩ := fn_at (fnx c 55) (fx c 362)
    exact ⟨He.eqO_ok (fx c 363), oc, od, doc, pm, an, cdv, ct, osl, _, _, _, _, _, _, _, ho, hc⟩)
  sLost := ⟨(of_decide_eq_true (fx c 364)), (of_decide_eq_true (fx c 365)), (of_decide_eq_true (fx c 366))⟩
  cNameTaken := ⟨(xb_of (fx c 367)), (xi_of (fx c 368)), (PySem.W.mg_of X G (He.eqO_ok (fx c 369)))⟩
  fNameTaken := (by
    obtain ⟨oc, od, doc, pm, an, cdv, ct, osl, ho, hc⟩ := fn_at (fnx c 56) (fx c 370)
    exact ⟨He.eqO_ok (fx c 371), oc, od, doc, pm, an, cdv, ct, osl, _, _, _, _, _, _, _, ho, hc⟩)
  sNameTaken := ⟨(of_decide_eq_true (fx c 372)), (of_decide_eq_true (fx c 373)), (of_decide_eq_true (fx c 374))⟩
  cCommandFailed := ⟨(xb_of (fx c 375)), (xi_of (fx c 376)), (PySem.W.mg_of X G (He.eqO_ok (fx c 377)))⟩
  fCommandFailed := (by
    obtain ⟨oc, od, doc, pm, an, cdv, ct, osl, ho, hc⟩ := fn_at (fnx c 57) (fx c 378)
    exact ⟨He.eqO_ok (fx c 379), oc, od, doc, pm, an, cdv, ct, osl, _, _, _, _, _, _, _, ho, hc⟩)
  sCommandFailed := ⟨(of_decide_eq_true (fx c 380)), (of_decide_eq_true (fx c 381)), (of_decide_eq_true (fx c 382))⟩
  cTooMany := ⟨(xb_of (fx c 383)), (xi_of (fx c 384)), (PySem.W.mg_of X G (He.eqO_ok (fx c 385)))⟩
  fTooMany := (by
    obtain ⟨oc, od, doc, pm, an, cdv, ct, osl, ho, hc⟩ := fn_at (fnx c 58) (fx c 386)
    exact ⟨He.eqO_ok (fx c 387), He.eqO_ok (fx c 388), oc, od, doc, pm, an, cdv, ct, osl, _, _, _, _, _, _, _, _, _, _, _, _, ho, hc⟩)
  eNothingLeft := ⟨(fx c 389), (PySem.W.mg_of X G (He.eqO_ok (fx c 392))), (fx c 390), ec_of (fx c 391)⟩
  sNothingLeft := ⟨(of_decide_eq_true (fx c 393)), (of_decide_eq_true (fx c 394)), (of_decide_eq_true (fx c 395))⟩
  eOtherMedium := ⟨(fx c 396), (PySem.W.mg_of X G (He.eqO_ok (fx c 399))), (fx c 397), ec_of (fx c 398)⟩
  sOtherMedium := ⟨(of_decide_eq_true (fx c 400)), (of_decide_eq_true (fx c 401)), (of_decide_eq_true (fx c 402))⟩
  eNoLookAhead := ⟨(fx c 403), (PySem.W.mg_of X G (He.eqO_ok (fx c 406))), (fx c 404), ec_of (fx c 405)⟩
  sNoLookAhead := ⟨(of_decide_eq_true (fx c 407)), (of_decide_eq_true (fx c 408)), (of_decide_eq_true (fx c 409))⟩
  eNoWindow := ⟨(fx c 410), (PySem.W.mg_of X G (He.eqO_ok (fx c 413))), (fx c 411), ec_of (fx c 412)⟩
  sNoWindow := ⟨(of_decide_eq_true (fx c 414)), (of_decide_eq_true (fx c 415)), (of_decide_eq_true (fx c 416))⟩
  eNotEven := ⟨(fx c 417), (PySem.W.mg_of X G (He.eqO_ok (fx c 420))), (fx c 418), ec_of (fx c 419)⟩
  sNotEven := ⟨(of_decide_eq_true (fx c 421)), (of_decide_eq_true (fx c 422)), (of_decide_eq_true (fx c 423))⟩
  eNothingToUndo := ⟨(fx c 424), (PySem.W.mg_of X G (He.eqO_ok (fx c 427))), (fx c 425), ec_of (fx c 426)⟩
  sNothingToUndo := ⟨(of_decide_eq_true (fx c 428)), (of_decide_eq_true (fx c 429)), (of_decide_eq_true (fx c 430))⟩
  great := (of_decide_eq_true (fx c 431))
  great1 := (of_decide_eq_true (fx c 432))
  great2 := (of_decide_eq_true (fx c 433))
  gB := (PySem.W.mg_of X G (He.eqO_ok (fx c 95)))
  gM := (PySem.W.mg_of X G (He.eqO_ok (fx c 92)))
  gS := (PySem.W.mg_of X G (He.eqO_ok (fx c 93)))
  gL := (PySem.W.mg_of X G (He.eqO_ok (fx c 94)))
end
end K11
end

section
set_option maxHeartbeats 0
namespace K11
open PySem PySem.W PySem.Calls PyProof.Rows
abbrev RW : OpenRow := OpenLaw.row PySem.Challenge.rw_barredrows_k11_signs_and_errors
abbrev qv : Program := view RW.prog [72]
def names0 : List PySem.Str := ["BarredError", "InvalidSigns", "InvalidTable", "InvalidWords", "InvalidLimits", "InvalidSteps", "InvalidBounds", "InvalidMedium", "InvalidState", "InvalidSign", "InvalidRow", "InvalidCount", "InvalidNumber", "InvalidDescription", "InvalidRate", "InvalidNumbers", "InvalidPaper", "InvalidCoder", "InvalidWord", "InvalidText", "InvalidBlock", "InvalidSharing", "InvalidChoice", "InvalidBits", "InvalidMark", "InvalidName", "InvalidThing", "InvalidClaim", "InvalidCommand", "MissingError"]
def names1 : List PySem.Str := ["UnknownWay", "UnknownName", "StateError", "NothingLeft", "OtherSigns", "OtherRate", "OtherMedium", "NoWeights", "DoesNotFit", "LosesSomething", "NoLookAhead", "NoWindow", "NotEven", "Lost", "NameTaken", "NothingToUndo", "CommandFailed", "LimitError", "TooMany", "ALL_SIGNS", "is_integer", "is_count", "is_row", "is_ahead", "_law_pot", "_law_draw", "_law_pick", "_law_odd", "_law_word", "_law_is_whole"]
def names2 : List PySem.Str := ["_law_is_word", "_law_ahead", "_law_looks_right", "_law_told", "_law_order_right", "_law_values_right", "_law_places_right", "_law_families_right", "_law_right"]
def names : List PySem.Str := names0 ++ names1 ++ names2
/-- the top's run -/
noncomputable abbrev runT (w : World) (os : OsState) : Option SharedT := HandSHeadRun.endF (HandSHeadRun.stepQ (HandSHeadRun.denQ HandSHeadRun.tabQ) RW.prog w) 13000 RW.prog w os
noncomputable def partB (fs : List (PySem.W.Frag → Bool)) (s : SharedT) : Bool := fs.all fun f => f (He.frG (HandSHeadRun.getT s) addrs)
noncomputable def partF (s : SharedT) : List He.FnW := fnd.map fun p => fnA (He.frG (HandSHeadRun.getT s) addrs) (adK (He.frG (HandSHeadRun.getT s) addrs) p.1)
def factsA : List (PySem.W.Frag → Bool) := facts0 ++ (facts1 ++ (facts2 ++ facts3))
def factsB : List (PySem.W.Frag → Bool) := facts4 ++ (facts5 ++ (facts6 ++ facts7))
def factsC : List (PySem.W.Frag → Bool) := facts8 ++ (facts9 ++ (facts10 ++ facts11))
def factsD : List (PySem.W.Frag → Bool) := facts12 ++ (facts13 ++ facts14)
theorem facts_all (K : PySem.W.Frag) : (facts.all fun f => f K) = ((factsA.all fun f => f K) && ((factsB.all fun f => f K) && ((factsC.all fun f => f K) && factsD.all fun f => f K))) := by
  unfold facts factsA factsB factsC factsD
  simp only [List.all_append, Bool.and_assoc]
end K11
end

section
set_option maxHeartbeats 0
namespace K11
open PySem PySem.W PySem.Calls PyProof.Rows
theorem run0 (w : World) (os : OsState) : (runT w os).map (fun s => (HandSHeadRun.looksF RW.prog (boot_heap w.params) s.abs, HandSHeadRun.seenQ qv names (importedModules RW.prog.main.body) (fun s => xlAt qv [] s && recOk RW.toRowW.records s) s.abs)) = some (true, openGood qv names) := by
  kernel_rfl
end K11
end

section
set_option maxHeartbeats 0
namespace K11
open PySem PySem.W PySem.Calls PyProof.Rows
theorem runA (w : World) (os : OsState) : (runT w os).map (partB factsA) = some true := by
  kernel_rfl
end K11
end

section
set_option maxHeartbeats 0
namespace K11
open PySem PySem.W PySem.Calls PyProof.Rows
theorem runB (w : World) (os : OsState) : (runT w os).map (partB factsB) = some true := by
  kernel_rfl
end K11
end

section
set_option maxHeartbeats 0
namespace K11
open PySem PySem.W PySem.Calls PyProof.Rows
theorem runC (w : World) (os : OsState) : (runT w os).map (partB factsC) = some true := by
  kernel_rfl
end K11
end

section
set_option maxHeartbeats 0
namespace K11
open PySem PySem.W PySem.Calls PyProof.Rows
theorem runD (w : World) (os : OsState) : (runT w os).map (partB factsD) = some true := by
  kernel_rfl
end K11
end

section
set_option maxHeartbeats 0
namespace K11
open PySem PySem.W PySem.Calls PyProof.Rows
theorem runF (w : World) (os : OsState) : (runT w os).map partF = some (fnd.map fun p => some p.2) := by
  kernel_rfl
end K11
end

section
set_option maxHeartbeats 0
namespace K11
open PySem PySem.W PySem.Calls PyProof.Rows
theorem of_map {α β : Type} {x : Option α} {s : α} {f : α → β} {v : β} (e : x = some s) (h : x.map f = some v) : f s = v := by
  rw [e] at h
  exact Option.some.inj h
theorem runK (w : World) : HandSHeadRun.RunEq RW qv hookK ob 13000 names w := by
  intro os
  obtain ⟨s, es, e0⟩ := Option.map_eq_some_iff.mp (run0 w os)
  have eA := of_map es (runA w os)
  have eB := of_map es (runB w os)
  have eC := of_map es (runC w os)
  have eD := of_map es (runD w os)
  have eF := of_map es (runF w os)
  have eo : ob s = valK := by
    show ((facts.all fun f => f (He.frG (HandSHeadRun.getT s) addrs)), partF s) = valK
    rw [facts_all, show (factsA.all fun f => f (He.frG (HandSHeadRun.getT s) addrs)) = true from eA, show (factsB.all fun f => f (He.frG (HandSHeadRun.getT s) addrs)) = true from eB, show (factsC.all fun f => f (He.frG (HandSHeadRun.getT s) addrs)) = true from eC, show (factsD.all fun f => f (He.frG (HandSHeadRun.getT s) addrs)) = true from eD, eF]
    rfl
  obtain ⟨e1, e2⟩ := Prod.mk.inj e0
  show (runT w os).map _ = _
  rw [es]
  show some (_, _, ob s) = _
  rw [eo, e1, e2]
  rfl
end K11
end

section
set_option maxHeartbeats 0
namespace K11
open PySem PySem.Spec PyProof.Rows L2
theorem walkE {l : PySem.W.OpenLaw} {n k : Nat} {q : Program} {loose : List Str} {XP : (Str → Option Value) → Heap → Prop} {YP : World → Heap → Prop} {d : DefRec} {x : Str}
    (hn : l.most = some n) (hn2 : n ≤ sizeLine) (hdf : d.params.defaults = []) (hr : Room k callerA)
    (F : ∀ (w : World) (mg : Str → Option Value) (fa : Addr) (h : Heap), YP w h → h.Ns mainGlobals mg → mg d.name = some (.ref fa) →
      ∃ (K : PySem.W.Frag) (fd : FuncData) (sp : Sp), K.In h ∧ (∀ (s : Shared) (u : Value), BindsTo s fd ⟨[u], []⟩ [(x, u)]) ∧
        (∀ (H : Hp) (a : Addr) (ns : List Int), ns.length ≤ n → Only H → SqL K H a (ns.map V.int) → sp [.ref a] H (fun v _ => v = .bl true) fun _ _ _ => False) ∧
        ∀ base : Heap, K.In base → base.Ns mainGlobals mg → FnG l.prog w K mg base k fa fd [x] sp) :
    PySem.W.WalkO q loose XP YP l.row.toRowW d [] (fun f vs => PySem.call f vs) := by
  refine Att.attach_call hn hdf fun w s₀ s₁ mg mb fa o pm cd doc a vs ns G Y ho hd hcd hmg hobj hints hlen hg => ?_
  obtain ⟨K, fd, sp, KX, hb, hsp, hF⟩ := F w mg fa _ Y G.T.g hmg
  exact law_endG KX G.T.g G.T.b G.T.builtins G.T.nolimit hg hobj hints (Nat.le_trans hlen hn2) hr hF hb fun H hO hS => hsp H a ns hlen hO hS
theorem lawF {P : Program} {w : World} {K : PySem.W.Frag} {h : Heap} {mg : Str → Option Value} {fa : Addr} (X : K.In h) (G : h.Ns mainGlobals mg) (hfa : mg ("law" : Str) = some (.ref fa)) (c : obsK K = valK) :
    (∀ (s : Shared) (u : Value), BindsTo s (fdK K "law") ⟨[u], []⟩ [("_law_script", u)]) ∧ ∀ base : Heap, K.In base → base.Ns mainGlobals mg → FnG P w K mg base 8 fa (fdK K "law") ["_law_script"] (spLaw K) := by
  have T := txK X G c
  have e := hfa.symm.trans T.g_law
  cases e
  refine ⟨fun s u => ?_, fun base _ _ => ok_law T (tellC X G c) (valC X G c) (plaC X G c) (famC X G c)⟩
  obtain ⟨oc, od, kV, doc, pm, an, cdv, ct, osl, ef, _⟩ := T.F_law.ex
  rw [ef]
  exact .of_eq rfl
end K11
open PySem PySem.W PySem.Calls PyProof.Rows
theorem PySem.Challenge.cw_barredrows_k11_signs_and_errors_holds : PySem.Challenge.rw_barredrows_k11_signs_and_errors.Holds := by
  w_on; o_law
  refine HandSHeadRun.head_any (r := OpenLaw.row PySem.Challenge.rw_barredrows_k11_signs_and_errors) (q := K11.qv) (H := K11.hookK) (ob := K11.ob) (M := 13000) (loose := K11.names) (d := HandSHeadRun.topDef (OpenLaw.row PySem.Challenge.rw_barredrows_k11_signs_and_errors).prog 72) (kwd := []) K11.ob_eq
    (by kernel_rfl) (fun s => by kernel_rfl) K11.runK (by kernel_rfl) (by kernel_rfl) (by kernel_rfl) (by rfl) (by first | assumption | decide +kernel) (by decide +kernel) ⟨rfl, rfl, rfl, rfl, rfl, by decide +kernel⟩ ?hw ?hc
  case hw => w_witness2
  case hc =>
    refine K11.walkE (l := PySem.Challenge.rw_barredrows_k11_signs_and_errors) (n := 63) (k := 8) (x := "_law_script") rfl (by decide) (by kernel_rfl) ⟨rfl, by decide, by decide⟩ ?F
    intro w mg fa h Y G hmg0
    obtain ⟨K, KX, c⟩ := Y
    have hmg : mg ("law" : PySem.Str) = some (.ref fa) := by
      have e : (HandSHeadRun.topDef (OpenLaw.row PySem.Challenge.rw_barredrows_k11_signs_and_errors).prog 72).name = ("law" : PySem.Str) := by kernel_rfl
      rw [← e]
      exact hmg0
    obtain ⟨hb, hF⟩ := K11.lawF (P := (PySem.Challenge.rw_barredrows_k11_signs_and_errors).prog) (w := w) KX G hmg c
    exact ⟨K, _, K11.spLaw K, KX, hb, fun H a ns hl _ hS => ⟨a, ns, rfl, hS, fun _ => rfl⟩, hF⟩
end
