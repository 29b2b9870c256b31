import PyProof.Rows.All
import Wide.All
import OpenK.AllK
import Wide.FinOn
import HandS.ForMost
import HandS.IsInst
import HandS.Style
import HandS.Defaults
import HandS.MakeKwOnly
import PySem.Challenge.RW_rimcords_k00_rims
set_option Elab.async false
set_option linter.all false
set_option maxRecDepth 100000
/-! Rims: arc, parts and crosses against a walk pin by pin. -/
namespace Rims
open PySem PySem.Spec PyProof.Rows L2
/-! ### the text by places -/
def top (i : Nat) : Stmt := PySem.Challenge.pw_rimcords_k00_rims.main.body.getD i (.Pass ⟨0, 0, 0, 0⟩)
abbrev sGaps : Stmt := top 1
abbrev sArc : Stmt := top 2
abbrev sParts : Stmt := top 3
abbrev sCrosses : Stmt := top 4
abbrev sWhole : Stmt := top 6
abbrev sCell : Stmt := top 7
abbrev sTruth : Stmt := top 8
abbrev sRow : Stmt := top 9
abbrev sWalk : Stmt := top 10
abbrev sApart : Stmt := top 11
abbrev sRim : Stmt := top 12
abbrev sFour : Stmt := top 13
abbrev sLaw : Stmt := top 14
theorem scGaps : FnScope ["pins"] ["pins"] (defScope sGaps) := ⟨rfl, rfl, rfl, by decide +kernel, rfl, by decide +kernel, by decide +kernel⟩
theorem scArc : FnScope ["pins", "first", "last", "many", "step"] ["pins", "first", "last"] (defScope sArc) := ⟨rfl, rfl, rfl, by decide +kernel, rfl, by decide +kernel, by decide +kernel⟩
theorem scParts : FnScope ["pins", "one", "other", "first", "last", "passed"] ["pins", "one", "other", "first", "last"] (defScope sParts) := ⟨rfl, rfl, rfl, by decide +kernel, rfl, by decide +kernel, by decide +kernel⟩
theorem scCrosses : FnScope ["a", "b", "c", "d", "low", "high"] ["a", "b", "c", "d"] (defScope sCrosses) := ⟨rfl, rfl, rfl, by decide +kernel, rfl, by decide +kernel, by decide +kernel⟩
/-! ### the mathematics -/
/-- how many pins are passed clockwise from gap s to gap t -/
def arcN (n s t : Int) : Nat := ((t - s).fmod n).toNat
/-- the pins passed clockwise from gap s to gap t -/
def arcL (n s t : Int) : List Int := (List.range (arcN n s t)).map fun i : Nat => (s + (1 + (i : Int))).fmod n
theorem arcN_same (n s : Int) : arcN n s s = 0 := by
  unfold arcN
  rw [Int.sub_self, Int.zero_fmod]
  rfl
theorem arcL_same (n s : Int) : arcL n s s = [] := by
  unfold arcL
  rw [arcN_same]
  rfl
theorem arcL_len (n s t : Int) : (arcL n s t).length = arcN n s t := by
  unfold arcL
  rw [List.length_map, List.length_range]
theorem arcL_take (n s t : Int) {i : Nat} (h : i < arcN n s t) : (arcL n s t).take (i + 1) = (arcL n s t).take i ++ [(s + (1 + (i : Int))).fmod n] := by
  have e : (arcL n s t)[i]? = some ((s + (1 + (i : Int))).fmod n) := by
    unfold arcL
    rw [List.getElem?_map, List.getElem?_range h]
    rfl
  rw [List.take_add_one, e]
  rfl
theorem arcL_all (n s t : Int) : (arcL n s t).take (arcN n s t) = arcL n s t := List.take_of_length_le (by rw [arcL_len]; exact Nat.le_refl _)
theorem fmod_in (x : Int) {n : Int} (h : 0 < n) : 0 ≤ x.fmod n ∧ x.fmod n < n := by
  rw [Int.fmod_eq_emod_of_nonneg _ (Int.le_of_lt h)]
  exact ⟨Int.emod_nonneg _ (by omega), Int.emod_lt_of_pos _ h⟩
theorem fmod_lo {y n : Int} (h0 : 0 ≤ y) (h1 : y < n) : y.fmod n = y := by
  rw [Int.fmod_eq_emod_of_nonneg _ (by omega)]
  exact Int.emod_eq_of_lt h0 h1
theorem fmod_hi {y n : Int} (h0 : n ≤ y) (h1 : y < n + n) : y.fmod n = y - n := by
  rw [Int.fmod_eq_emod_of_nonneg _ (by omega), show y = (y - n) + n * 1 by omega, Int.add_mul_emod_self_left, Int.emod_eq_of_lt (by omega) (by omega)]
  omega
theorem fmod_neg {y n : Int} (h0 : -n ≤ y) (h1 : y < 0) : y.fmod n = y + n := by
  rw [Int.fmod_eq_emod_of_nonneg _ (by omega), show y = (y + n) + n * (-1) by omega, Int.add_mul_emod_self_left, Int.emod_eq_of_lt (by omega) (by omega)]
  omega
theorem arcN_up {n s t : Int} (h0 : 0 ≤ s) (ht : t < n) (h : s ≤ t) : (arcN n s t : Int) = t - s := by
  unfold arcN
  rw [fmod_lo (by omega) (by omega)]
  omega
theorem arcN_down {n s t : Int} (h0 : 0 ≤ t) (hs : s < n) (h : t < s) : (arcN n s t : Int) = t - s + n := by
  unfold arcN
  rw [fmod_neg (by omega) (by omega)]
  omega
theorem mem_arc {n s t x : Int} (s0 : 0 ≤ s) (s1 : s < n) (t0 : 0 ≤ t) (t1 : t < n) (x0 : 0 ≤ x) (x1 : x < n) : x ∈ arcL n s t ↔ (s ≤ t ∧ s < x ∧ x ≤ t) ∨ (t < s ∧ (s < x ∨ x ≤ t)) := by
  unfold arcL
  rw [List.mem_map]
  by_cases h : s ≤ t
  · have e := arcN_up s0 t1 h
    constructor
    · rintro ⟨i, hi, rfl⟩
      rw [List.mem_range] at hi
      rw [fmod_lo (by omega) (by omega)]
      omega
    · intro q
      refine ⟨(x - s - 1).toNat, List.mem_range.mpr (by omega), ?_⟩
      rw [fmod_lo (by omega) (by omega)]
      omega
  · have e := arcN_down t0 s1 (by omega : t < s)
    constructor
    · rintro ⟨i, hi, rfl⟩
      rw [List.mem_range] at hi
      by_cases hn : s + (1 + (i : Int)) < n
      · rw [fmod_lo (by omega) hn]
        omega
      · rw [fmod_hi (by omega) (by omega)]
        omega
    · intro q
      by_cases hx : s < x
      · refine ⟨(x - s - 1).toNat, List.mem_range.mpr (by omega), ?_⟩
        rw [fmod_lo (by omega) (by omega)]
        omega
      · refine ⟨(x + n - s - 1).toNat, List.mem_range.mpr (by omega), ?_⟩
        rw [fmod_hi (by omega) (by omega)]
        omega
/-- is exactly one of two pins passed? -/
def partB (n a b s t : Int) : Bool := decide (a ∈ arcL n s t) != decide (b ∈ arcL n s t)
theorem part_back {n s t a b : Int} (s0 : 0 ≤ s) (s1 : s < n) (t0 : 0 ≤ t) (t1 : t < n) (a0 : 0 ≤ a) (a1 : a < n) (b0 : 0 ≤ b) (b1 : b < n) : partB n b a t s = partB n a b s t := by
  have e1 := mem_arc s0 s1 t0 t1 a0 a1
  have e2 := mem_arc s0 s1 t0 t1 b0 b1
  have e3 := mem_arc t0 t1 s0 s1 a0 a1
  have e4 := mem_arc t0 t1 s0 s1 b0 b1
  unfold partB
  by_cases h : s = t
  · subst h
    rw [arcL_same]
    rfl
  · have d1 : decide (a ∈ arcL n t s) = !decide (a ∈ arcL n s t) := by
      rw [← decide_not]
      exact decide_eq_decide.mpr (by rw [e1, e3]; omega)
    have d2 : decide (b ∈ arcL n t s) = !decide (b ∈ arcL n s t) := by
      rw [← decide_not]
      exact decide_eq_decide.mpr (by rw [e2, e4]; omega)
    rw [d1, d2]
    cases decide (a ∈ arcL n s t) <;> cases decide (b ∈ arcL n s t) <;> rfl
theorem ne_bl (p q : Bool) : (!decide (V.bl p = V.bl q)) = (p != q) := by
  cases p <;> cases q <;> rfl
/-- the walk pin by pin is at its end just behind arcN turns -/
theorem walk_end {n s t : Int} {i : Nat} (s0 : 0 ≤ s) (s1 : s < n) (t0 : 0 ≤ t) (t1 : t < n) (h : i ≤ arcN n s t) : (s + (i : Int)).fmod n = t ↔ i = arcN n s t := by
  by_cases hc : s ≤ t
  · have e := arcN_up s0 t1 hc
    rw [fmod_lo (by omega) (by omega)]
    omega
  · have e := arcN_down t0 s1 (by omega : t < s)
    by_cases hn : s + (i : Int) < n
    · rw [fmod_lo (by omega) hn]
      omega
    · rw [fmod_hi (by omega) (by omega)]
      omega
theorem walk_on {n s : Int} {i : Nat} (n0 : 0 < n) : ((s + (i : Int)).fmod n + 1).fmod n = (s + (1 + (i : Int))).fmod n := by
  rw [Int.fmod_eq_emod_of_nonneg _ (Int.le_of_lt n0), Int.fmod_eq_emod_of_nonneg _ (Int.le_of_lt n0), Int.fmod_eq_emod_of_nonneg _ (Int.le_of_lt n0), Int.emod_add_emod]
  congr 1
  omega
/-! ### crossing pins -/
def lo (a b : Int) : Int := if b < a then b else a
def hi (a b : Int) : Int := if b > a then b else a
def btw (l x h : Int) : Bool := if l < x then decide (x < h) else false
def crossB (a b c d : Int) : Bool := if c = a ∨ c = b ∨ d = a ∨ d = b then false else btw (lo a b) c (hi a b) != btw (lo a b) d (hi a b)
def apartB (w x y z : Int) : Bool := if (w = x ∨ w = y ∨ w = z) ∨ (x = y ∨ x = z) ∨ y = z then false else btw (lo w x) y (hi w x) != btw (lo w x) z (hi w x)
theorem btw_iff (l x h : Int) : btw l x h = true ↔ l < x ∧ x < h := by
  unfold btw
  by_cases e : l < x
  · rw [if_pos e]
    simp [e]
  · rw [if_neg e]
    simp [e]
theorem bne_iff (p q : Bool) : (p != q) = true ↔ ¬ (p = true ↔ q = true) := by
  cases p <;> cases q <;> decide
theorem lo_hi (a b : Int) : (a ≤ b ∧ lo a b = a ∧ hi a b = b) ∨ (b < a ∧ lo a b = b ∧ hi a b = a) := by
  unfold lo hi
  by_cases h : b < a
  · right
    rw [if_pos h, if_neg (by omega)]
    omega
  · left
    rw [if_neg h]
    by_cases e : b > a
    · rw [if_pos e]
      omega
    · rw [if_neg e]
      omega
theorem cross_iff (a b c d : Int) : crossB a b c d = true ↔ ¬ (c = a ∨ c = b ∨ d = a ∨ d = b) ∧ ¬ ((lo a b < c ∧ c < hi a b) ↔ (lo a b < d ∧ d < hi a b)) := by
  unfold crossB
  by_cases h : c = a ∨ c = b ∨ d = a ∨ d = b
  · rw [if_pos h]
    simp [h]
  · rw [if_neg h, bne_iff, btw_iff, btw_iff]
    simp only [h, not_false_eq_true, true_and]
theorem apart_iff (w x y z : Int) : apartB w x y z = true ↔ ¬ ((w = x ∨ w = y ∨ w = z) ∨ (x = y ∨ x = z) ∨ y = z) ∧ ¬ ((lo w x < y ∧ y < hi w x) ↔ (lo w x < z ∧ z < hi w x)) := by
  unfold apartB
  by_cases h : (w = x ∨ w = y ∨ w = z) ∨ (x = y ∨ x = z) ∨ y = z
  · rw [if_pos h]
    simp [h]
  · rw [if_neg h, bne_iff, btw_iff, btw_iff]
    simp only [h, not_false_eq_true, true_and]
theorem cross1 (w x y z : Int) : crossB w x y z = apartB w x y z := by
  rw [Bool.eq_iff_iff, cross_iff, apart_iff]
  have h1 := lo_hi w x
  omega
theorem cross2 (w x y z : Int) : crossB y z w x = apartB w x y z := by
  rw [Bool.eq_iff_iff, cross_iff, apart_iff]
  have h1 := lo_hi w x
  have h2 := lo_hi y z
  omega
theorem cross3 (w x y z : Int) : crossB x w y z = apartB w x y z := by
  rw [Bool.eq_iff_iff, cross_iff, apart_iff]
  have h1 := lo_hi w x
  have h2 := lo_hi x w
  omega
theorem cross4 (w x y z : Int) : crossB w x z y = apartB w x y z := by
  rw [Bool.eq_iff_iff, cross_iff, apart_iff]
  have h1 := lo_hi w x
  omega
/-! ### heaps -/
theorem same_upd {H : Hp} {p : Addr} {o : HO} (h : H p = none) : Same H (upd H p o) := fun b x e => by
  rw [upd_ne (ne_of_none e h)]
  exact e
theorem Same.tup {K : PySem.W.Frag} {H H' : Hp} {a : Addr} {xs : List V} (e : Same H H') (h : SqT K H a xs) : SqT K H' a xs := by
  rcases h with (h | ⟨o, h⟩) | h
  · exact .inl (.inl (e _ _ h))
  · exact .inl (.inr ⟨o, e _ _ h⟩)
  · exact .inr h
theorem flat_ints (xs : List Int) : (xs.map V.int).all flatV = true := by
  rw [List.all_map, List.all_eq_true]
  intro _ _
  rfl
theorem inV_ints (x : Int) (xs : List Int) : inV (.int x) (xs.map V.int) = decide (x ∈ xs) := by
  unfold inV
  induction xs with
  | nil => rfl
  | cons y r ih =>
    rw [List.map_cons, List.any_cons, ih]
    show (y == x || decide (x ∈ r)) = decide (x ∈ y :: r)
    by_cases e : y = x
    · subst e
      simp
    · have e2 : x ≠ y := fun z => e z.symm
      simp [e, e2]
section
variable {P : Program} {w : World} {K : PySem.W.Frag} {mg : Str → Option Value} {base : Heap}
/-! ### gaps -/
def spGaps : Sp := fun vs H Q _ => ∃ n : Int, vs = [.int n] ∧ Q (.int (if 1 > n then 1 else n)) H
theorem ok_gaps {f : Addr} {fd : FuncData} (F : Fun K "gaps" "gaps" sGaps f fd) (mM : mg "max" = none) : FnOk P w K mg base CX0 1 f fd ["pins"] spGaps := by
  refine F.ok scGaps (fun vs H Q E h => ?_) (fun cdv A outer s H vs Q E hr h => ?_)
  · obtain ⟨n, rfl, _⟩ := h
    rfl
  · obtain ⟨n, rfl, q⟩ := h
    refine ⟨_, pss_one (ps_ret (pe_callB (call_max2 rfl) (by rfl) mM (by decide +kernel) (pa_cons (pv 0) (pa_cons pe_int pa_nil)))), ?_⟩
    exact ⟨_, rfl, n, 1, rfl, q⟩
/-! ### arc -/
def spArc : Sp := fun vs H Q _ => ∃ n s t : Int, vs = [.int n, .int s, .int t] ∧ (s = t ∨ 0 < n) ∧ n ≤ 1000 ∧
  ∀ H' p, Same H H' → H p = none → H' p = some (.tup ((arcL n s t).map V.int)) → Q (.ref p) H'
theorem ok_arc {f : Addr} {fd : FuncData} (F : Fun K "arc" "arc" sArc f fd) (mT : mg "tuple" = none) (mR : mg "range" = none) : FnOk P w K mg base CX0 1 f fd ["pins", "first", "last"] spArc := by
  refine F.ok scArc (fun vs H Q E h => ?_) (fun cdv A outer s H vs Q E hr h => ?_)
  · obtain ⟨n, s, t, rfl, _⟩ := h
    rfl
  · obtain ⟨n, s, t, rfl, hn, hm, q⟩ := h
    refine ⟨_, pss_cons (ps_if (pt_cmpR op_eq (pv 1) (pv 2) (nomark _)) (pss_one (ps_ret (pe_tup pa_nil))) pss_nil)
      (pss_cons (ps_set (i := 3) scArc.nd rfl (.inl rfl) (pe_op op_modN (pe_op op_sub (pv 2) (pv 1)) (pv 0)))
      (pss_one (ps_ret (pe_callTy call_tuple_of (by rfl) mT (by decide +kernel) (pa_cons
        (pe_lc (own := [("step", 4)]) (g := gName 4) (tt := tYes) rfl scArc.nd
          (pi_range2 (by rfl) mR (pa_cons pe_int (pa_cons (pe_op op_add (pv 3) pe_int) pa_nil)))
          (blkOk_by (own := [("step", 4)]) (N := ["pins", "first", "last", "many", "step"]) (sc := defScope sArc) (by decide +kernel))
          (fun _ _ _ _ _ => pg_name (i := 4) scArc.nd rfl (Or.inl rfl))
          (fun _ _ _ _ _ => pts_nil)
          (fun _ _ _ _ _ => pe_op op_modN (pe_op op_add (pv 1) (pv 4)) (pv 0)))
        pa_nil))))), ?_⟩
    refine ⟨.int s, rfl, .int t, rfl, rfl, _, rfl, ite2 (fun e => ?_) (fun e => ?_)⟩
    · have e1 : s = t := V.int.inj (of_decide_eq_true e)
      subst e1
      refine ⟨Nat.zero_le _, fun p np => ?_⟩
      refine q _ p (same_upd np) np ?_
      rw [upd_same, arcL_same]
      rfl
    · have e1 : s ≠ t := fun z => e (by rw [z]; exact decide_eq_true rfl)
      have n0 : 0 < n := hn.resolve_left e1
      refine ⟨.int t, rfl, .int s, rfl, t, s, rfl, rfl, .int n, rfl, t - s, n, rfl, rfl, by omega, ?_⟩
      obtain ⟨m0, m1⟩ := fmod_in (t - s) n0
      refine ⟨.int ((t - s).fmod n), rfl, (t - s).fmod n, 1, rfl, rfl, 1, (t - s).fmod n + 1, rfl, ⟨by omega, by omega, by omega, by omega⟩, fun D hD => ?_⟩
      have en : ((t - s).fmod n + 1 - 1).toNat = arcN n s t := by
        rw [Int.add_sub_cancel]
        rfl
      have en2 : arcN n s t ≤ 1000 := by
        unfold arcN
        omega
      rw [en]
      refine lc_range (lo := 1) (n := arcN n s t) (fun i H' => H' = upd H D (.lst (((arcL n s t).take i).map V.int))) rfl (fun i H' hi e => ?_) (fun H' e => ?_)
      · subst e
        refine ⟨rfl, ?_⟩
        refine ⟨.int s, rfl, .int (1 + (i : Int)), rfl, s, 1 + (i : Int), rfl, rfl, .int n, rfl, s + (1 + (i : Int)), n, rfl, rfl, by omega, ?_⟩
        refine ⟨_, upd_same, ?_, ?_⟩
        · rw [List.length_map, List.length_take, arcL_len]
          exact Nat.lt_of_le_of_lt (Nat.min_le_right _ _) (small1000 en2)
        · rw [arcL_take n s t hi, List.map_append]
          exact upd_upd
      · subst e
        rw [arcL_all]
        refine ⟨D, _, rfl, .inl ⟨.inl (.inl upd_same), fun p np => ?_⟩⟩
        have nD : p ≠ D := fun z => by
          rw [z, upd_same] at np
          cases np
        refine q _ p ((same_upd hD).trans (same_upd np)) ?_ upd_same
        rw [upd_ne nD] at np
        exact np
end
end Rims

namespace Rims
open PySem PySem.Spec PyProof.Rows L2
theorem scWhole : FnScope ["_law_value"] ["_law_value"] (defScope sWhole) := ⟨rfl, rfl, rfl, by decide +kernel, rfl, by decide +kernel, by decide +kernel⟩
theorem scCell : FnScope ["_law_script", "_law_k", "_law_seed", "_law_cell_here"] ["_law_script", "_law_k"] (defScope sCell) := ⟨rfl, rfl, rfl, by decide +kernel, rfl, by decide +kernel, by decide +kernel⟩
theorem scTruth : FnScope ["_law_value", "_law_due"] ["_law_value", "_law_due"] (defScope sTruth) := ⟨rfl, rfl, rfl, by decide +kernel, rfl, by decide +kernel, by decide +kernel⟩
theorem scRow : FnScope ["_law_value", "_law_due", "_law_k"] ["_law_value", "_law_due"] (defScope sRow) := ⟨rfl, rfl, rfl, by decide +kernel, rfl, by decide +kernel, by decide +kernel⟩
theorem scWalk : FnScope ["_law_rim_here", "_law_start", "_law_stop", "_law_row_here", "_law_k", "_law_step"] ["_law_rim_here", "_law_start", "_law_stop"] (defScope sWalk) := ⟨rfl, rfl, rfl, by decide +kernel, rfl, by decide +kernel, by decide +kernel⟩
theorem scApart : FnScope ["_law_w", "_law_x", "_law_y", "_law_z"] ["_law_w", "_law_x", "_law_y", "_law_z"] (defScope sApart) := ⟨rfl, rfl, rfl, by decide +kernel, rfl, by decide +kernel, by decide +kernel⟩
/-- l < x < h, all three plain ints -/
theorem rd_btw {ta tb tc : TE} {σ : L2.St} {H : Hp} {Q : VK} {l x h : Int} (ha : ∀ Q : VK, Q (.int l) H → ta σ H Q) (hb : ∀ Q : VK, Q (.int x) H → tb σ H Q) (hc : ∀ Q : VK, Q (.int h) H → tc σ H Q) (q : Q (.bl (btw l x h)) H) :
    tChain (rI0 fun i j => .bl (decide (i < j))) (rI0 fun i j => .bl (decide (i < j))) ta tb tc σ H Q := by
  refine ha _ (hb _ ⟨l, x, rfl, rfl, _, rfl, ?_⟩)
  unfold btw at q
  by_cases e : l < x
  · rw [if_pos e] at q
    rw [decide_eq_true e, if_pos rfl]
    exact hc _ ⟨x, h, rfl, rfl, q⟩
  · rw [if_neg e] at q
    rw [decide_eq_false e, if_neg (by decide)]
    exact q
section
variable {P : Program} {w : World} {K : PySem.W.Frag} {mg : Str → Option Value} {base : Heap}
/-- a def of the top: its text, its place, how it is called -/
structure Df (K : PySem.W.Frag) (mg : Str → Option Value) (x : Str) (st : Stmt) (ps : List Str) (f : Addr) (fd : FuncData) : Prop where
  F : Fun K x x st f fd
  g : mg x = some (.ref f)
  b : Binds K fd ps []
/-! ### parts -/
def spParts : Sp := fun vs H Q _ => ∃ n a b s t : Int, vs = [.int n, .int a, .int b, .int s, .int t] ∧ (s = t ∨ 0 < n) ∧ n ≤ 1000 ∧
  ∀ H', Same H H' → Q (.bl (partB n a b s t)) H'
theorem ok_parts {f fA : Addr} {fd fdA : FuncData} (F : Fun K "parts" "parts" sParts f fd) (DA : Df K mg "arc" sArc ["pins", "first", "last"] fA fdA) (mT : mg "tuple" = none) (mR : mg "range" = none) :
    FnOk P w K mg base CX0 2 f fd ["pins", "one", "other", "first", "last"] spParts := by
  have GA : FnOk P w K mg base CX0 1 fA fdA ["pins", "first", "last"] spArc := ok_arc DA.F mT mR
  refine F.ok scParts (fun vs H Q E h => ?_) (fun cdv A outer s H vs Q E hr h => ?_)
  · obtain ⟨n, a, b, s, t, rfl, _⟩ := h
    rfl
  · obtain ⟨n, a, b, s, t, rfl, hn, hm, q⟩ := h
    refine ⟨_, pss_cons (ps_set (i := 5) scParts.nd rfl (.inl rfl) (pe_call GA hr (by rfl) DA.g DA.F.kp DA.b .nil pass0 (pa_cons (pv 0) (pa_cons (pv 3) (pa_cons (pv 4) pa_nil)))))
      (pss_one (ps_ret (pe_cmpR op_ne (pe_cmpR op_in_seq (pv 1) (pv 5) (by rfl)) (pe_cmpR op_in_seq (pv 2) (pv 5) (by rfl)) (nomark _)))), ?_⟩
    refine ⟨_, rfl, _, rfl, _, rfl, n, s, t, rfl, hn, hm, fun H1 p sm np ep => ?_⟩
    have hT : SqT K H1 p ((arcL n s t).map V.int) := .inl (.inl ep)
    refine ⟨_, rfl, _, rfl, p, _, rfl, .inr hT, rfl, flat_ints _, _, rfl, _, rfl, p, _, rfl, .inr hT, rfl, flat_ints _, rfl, ?_⟩
    have e : (!decide (V.bl (inV (.int a) ((arcL n s t).map V.int)) = V.bl (inV (.int b) ((arcL n s t).map V.int)))) = partB n a b s t := by
      rw [ne_bl, inV_ints, inV_ints]
      rfl
    show Q (.bl (!decide (V.bl (inV (.int a) ((arcL n s t).map V.int)) = V.bl (inV (.int b) ((arcL n s t).map V.int))))) H1
    rw [e]
    exact q H1 sm
/-! ### crosses -/
def spCrosses : Sp := fun vs H Q _ => ∃ a b c d : Int, vs = [.int a, .int b, .int c, .int d] ∧ Q (.bl (crossB a b c d)) H
theorem ok_crosses {f : Addr} {fd : FuncData} (F : Fun K "crosses" "crosses" sCrosses f fd) (mMin : mg "min" = none) (mMax : mg "max" = none) : FnOk P w K mg base CX0 1 f fd ["a", "b", "c", "d"] spCrosses := by
  refine F.ok scCrosses (fun vs H Q E h => ?_) (fun cdv A outer s H vs Q E hr h => ?_)
  · obtain ⟨a, b, c, d, rfl, _⟩ := h
    rfl
  · obtain ⟨a, b, c, d, rfl, q⟩ := h
    refine ⟨_, pss_cons (ps_set (i := 4) scCrosses.nd rfl (.inl rfl) (pe_callB (call_min2 rfl) (by rfl) mMin (by decide +kernel) (pa_cons (pv 0) (pa_cons (pv 1) pa_nil))))
      (pss_cons (ps_set (i := 5) scCrosses.nd rfl (.inl rfl) (pe_callB (call_max2 rfl) (by rfl) mMax (by decide +kernel) (pa_cons (pv 0) (pa_cons (pv 1) pa_nil))))
      (pss_cons (ps_if (PW.pt (pw_or (pt_cmpR op_eq (pv 2) (pv 0) (nomark _)) (pw_or (pt_cmpR op_eq (pv 2) (pv 1) (nomark _)) (pw_or (pt_cmpR op_eq (pv 3) (pv 0) (nomark _)) (pw_or1 (pt_cmpR op_eq (pv 3) (pv 1) (nomark _))))))) (pss_one (ps_ret pe_bl)) pss_nil)
      (pss_one (ps_ret (pe_cmpR op_ne (pe_chain op_lt op_lt (pv 4) (pv 2) (pv 5)) (pe_chain op_lt op_lt (pv 4) (pv 3) (pv 5)) (nomark _)))))), ?_⟩
    refine ⟨_, rfl, _, rfl, a, b, rfl, _, rfl, _, rfl, a, b, rfl, ?_⟩
    unfold crossB at q
    refine ⟨_, rfl, _, rfl, rfl, _, rfl, ite2 (fun e => ?_) (fun e => ⟨_, rfl, _, rfl, rfl, _, rfl, ite2 (fun e2 => ?_) (fun e2 => ⟨_, rfl, _, rfl, rfl, _, rfl, ite2 (fun e3 => ?_) (fun e3 => ⟨_, rfl, _, rfl, rfl, _, rfl, ?_⟩)⟩)⟩)⟩
    · rw [if_pos (.inl (V.int.inj (of_decide_eq_true e)))] at q
      exact q
    · rw [if_pos (.inr (.inl (V.int.inj (of_decide_eq_true e2))))] at q
      exact q
    · rw [if_pos (.inr (.inr (.inl (V.int.inj (of_decide_eq_true e3)))))] at q
      exact q
    · refine ite2 (fun e4 => ?_) (fun e4 => ?_)
      · rw [if_pos (.inr (.inr (.inr (V.int.inj (of_decide_eq_true e4)))))] at q
        exact q
      · have g1 : ¬ c = a := fun z => e (by rw [z]; exact decide_eq_true rfl)
        have g2 : ¬ c = b := fun z => e2 (by rw [z]; exact decide_eq_true rfl)
        have g3 : ¬ d = a := fun z => e3 (by rw [z]; exact decide_eq_true rfl)
        have g4 : ¬ d = b := fun z => e4 (by rw [z]; exact decide_eq_true rfl)
        rw [if_neg (fun z => by rcases z with z | z | z | z <;> contradiction)] at q
        refine rd_btw (ta := tVar 4) (tb := tVar 2) (tc := tVar 5) (l := lo a b) (x := c) (h := hi a b) (fun Q h => ⟨_, rfl, h⟩) (fun Q h => ⟨_, rfl, h⟩) (fun Q h => ⟨_, rfl, h⟩) ?_
        refine rd_btw (ta := tVar 4) (tb := tVar 3) (tc := tVar 5) (l := lo a b) (x := d) (h := hi a b) (fun Q h => ⟨_, rfl, h⟩) (fun Q h => ⟨_, rfl, h⟩) (fun Q h => ⟨_, rfl, h⟩) ⟨rfl, ?_⟩
        rw [ne_bl]
        exact q
/-! ### the law's helpers -/
def spWhole : Sp := fun vs H Q _ => ∃ i : Int, vs = [.int i] ∧ Q (.bl true) H
theorem ok_whole {f : Addr} {fd : FuncData} (F : Fun K "_law_whole" "_law_whole" sWhole f fd) (mS : mg "isinstance" = none) (mI : mg "int" = none) (mB : mg "bool" = none) : FnOk P w K mg base CX0 1 f fd ["_law_value"] spWhole := by
  refine F.ok scWhole (fun vs H Q E h => ?_) (fun cdv A outer s H vs Q E hr h => ?_)
  · obtain ⟨i, rfl, _⟩ := h
    rfl
  · obtain ⟨i, rfl, q⟩ := h
    refine ⟨_, pss_one (ps_ret (pe_and (pe_callB call_isi (by rfl) mS (by decide +kernel) (pa_cons (pv 0) (pa_cons (pe_bltn (v := .ty "int") (by rfl) mI (by decide +kernel) rfl) pa_nil)))
      (pe_one (pe_not (pe_callB call_isi (by rfl) mS (by decide +kernel) (pa_cons (pv 0) (pa_cons (pe_bltn (v := .ty "bool") (by rfl) mB (by decide +kernel) rfl) pa_nil))))))), ?_⟩
    refine ⟨_, rfl, _, _, _, _, true, rfl, .ty "int", .base (.int i), kit_ty (by decide +kernel), true, rfl, ?_⟩
    exact ⟨_, rfl, _, _, _, _, false, rfl, .ty "bool", .base (.int i), kit_ty (by decide +kernel), false, rfl, q⟩
def spTruth : Sp := fun vs H Q _ => ∃ b : Bool, vs = [.bl b, .bl b] ∧ Q (.bl true) H
theorem ok_truth {f : Addr} {fd : FuncData} (F : Fun K "_law_truth" "_law_truth" sTruth f fd) : FnOk P w K mg base CX0 1 f fd ["_law_value", "_law_due"] spTruth := by
  refine F.ok scTruth (fun vs H Q E h => ?_) (fun cdv A outer s H vs Q E hr h => ?_)
  · obtain ⟨b, rfl, _⟩ := h
    rfl
  · obtain ⟨b, rfl, q⟩ := h
    refine ⟨_, pss_cons (ps_if (pt_val (pv 1)) (pss_one (ps_ret (pe_cmpR op_isBl (pv 0) pe_bl (nomark _)))) pss_nil) (pss_one (ps_ret (pe_cmpR op_isBl (pv 0) pe_bl (nomark _)))), ?_⟩
    cases b with
    | true => exact ⟨_, rfl, _, rfl, _, rfl, _, _, rfl, rfl, q⟩
    | false => exact ⟨_, rfl, _, rfl, _, rfl, _, _, rfl, rfl, q⟩
def spRow (K : PySem.W.Frag) : Sp := fun vs H Q _ => ∃ (t l : Addr) (xs : List Int), vs = [.ref t, .ref l] ∧ H t = some (.tup (xs.map V.int)) ∧ SqL K H l (xs.map V.int) ∧ xs.length ≤ 1000 ∧ Q (.bl true) H
theorem ok_row {f fW : Addr} {fd fdW : FuncData} (F : Fun K "_law_row" "_law_row" sRow f fd) (DW : Df K mg "_law_whole" sWhole ["_law_value"] fW fdW) (mS : mg "isinstance" = none) (mI : mg "int" = none) (mB : mg "bool" = none) (mT : mg "tuple" = none) (mL : mg "len" = none) (mR : mg "range" = none) :
    FnOk P w K mg base CX0 2 f fd ["_law_value", "_law_due"] (spRow K) := by
  have GW : FnOk P w K mg base CX0 1 fW fdW ["_law_value"] spWhole := ok_whole DW.F mS mI mB
  refine F.ok scRow (fun vs H Q E h => ?_) (fun cdv A outer s H vs Q E hr h => ?_)
  · obtain ⟨t, l, xs, rfl, _⟩ := h
    rfl
  · obtain ⟨t, l, xs, rfl, ht, hl, hlen, q⟩ := h
    have hT : SqT K H t (xs.map V.int) := .inl (.inl ht)
    refine ⟨_, pss_cons (ps_if (PW.pt (pw_or (pt_not (pt_val (pe_callB call_isi (by rfl) mS (by decide +kernel) (pa_cons (pv 0) (pa_cons (pe_bltn (v := .ty "tuple") (by rfl) mT (by decide +kernel) rfl) pa_nil)))))
        (pw_or1 (pt_cmpR op_ne (pe_callB call_len_seq (by rfl) mL PySem.boot_len (pa_cons (pv 0) pa_nil)) (pe_callB call_len_seq (by rfl) mL PySem.boot_len (pa_cons (pv 1) pa_nil)) (nomark _))))) (pss_one (ps_ret pe_bl)) pss_nil)
      (pss_cons (ps_for PassesOwn.never rfl (pi_range1 (by rfl) mR (pa_cons (pe_callB call_len_seq (by rfl) mL PySem.boot_len (pa_cons (pv 1) pa_nil)) pa_nil)) (pg_name (i := 2) scRow.nd rfl (.inl rfl))
        (pss_one (ps_if (PW.pt (pw_or (pt_not (pt_val (pe_call GW hr (by rfl) DW.g DW.F.kp DW.b .nil pass0 (pa_cons (pe_ix ix_tup (pv 0) (pv 2) (fun _ _ => rfl)) pa_nil))))
          (pw_or1 (pt_cmpR op_ne (pe_ix ix_tup (pv 0) (pv 2) (fun _ _ => rfl)) (pe_ix ix_list (pv 1) (pv 2) (fun _ _ => rfl)) (nomark _))))) (pss_one (ps_ret pe_bl)) pss_nil)))
      (pss_one (ps_ret pe_bl))), ?_⟩
    refine ⟨_, rfl, _, _, _, _, true, rfl, .ty "tuple", .base (.tup ht), kit_ty (by decide +kernel), true, rfl, ?_⟩
    refine ⟨_, rfl, _, _, rfl, .inr hT, _, rfl, _, _, rfl, .inl hl, rfl, _, rfl, iteNS rfl ?_⟩
    refine ⟨_, rfl, _, _, rfl, .inl hl, _, rfl, by omega, ?_, ?_⟩
    · rw [List.length_map]
      omega
    · rw [List.length_map]
      refine for_range (lo := 0) (n := xs.length) (fun i σ H' => (∃ y, σ = [some (.ref t), some (.ref l), y]) ∧ H' = H) ⟨⟨none, rfl⟩, rfl⟩ (fun i σ H' hi p => ?_) (fun σ H' p => ?_)
      · obtain ⟨⟨y, rfl⟩, rfl⟩ := p
        have g : (xs.map V.int)[i]? = some (.int xs[i]) := by
          rw [List.getElem?_map, List.getElem?_eq_getElem hi]
          rfl
        have gi : atI (xs.map V.int) (0 + (i : Int)) = some (.int xs[i]) := at_of (by omega) g
        refine ⟨_, rfl, _, rfl, _, _, _, _, rfl, rfl, hT, gi, xs[i], rfl, _, rfl, ?_⟩
        refine ⟨_, rfl, _, rfl, _, _, _, _, rfl, rfl, hT, gi, _, rfl, _, rfl, _, _, _, _, rfl, rfl, hl, gi, rfl, _, rfl, iteNS rfl ?_⟩
        exact ⟨⟨_, rfl⟩, rfl⟩
      · obtain ⟨_, rfl⟩ := p
        exact q
end
end Rims

namespace Rims
open PySem PySem.Spec PyProof.Rows L2
section
variable {P : Program} {w : World} {K : PySem.W.Frag} {mg : Str → Option Value} {base : Heap}
/-! ### the walk pin by pin -/
def spWalk : Sp := fun vs H Q _ => ∃ n s t : Int, vs = [.int n, .int s, .int t] ∧ ((n = 0 ∧ s = t) ∨ (0 < n ∧ 0 ≤ s ∧ s < n ∧ 0 ≤ t ∧ t < n)) ∧ n ≤ 1000 ∧
  ∀ H' p, Same H H' → H p = none → H' p = some (.lst ((arcL n s t).map V.int)) → Q (.ref p) H'
theorem ok_walk {f : Addr} {fd : FuncData} (F : Fun K "_law_walk" "_law_walk" sWalk f fd) (mR : mg "range" = none) (mI : mg "int" = none) : FnOk P w K mg base CX0 1 f fd ["_law_rim_here", "_law_start", "_law_stop"] spWalk := by
  refine F.ok scWalk (fun vs H Q E h => ?_) (fun cdv A outer s H vs Q E hr h => ?_)
  · obtain ⟨n, s, t, rfl, _⟩ := h
    rfl
  · obtain ⟨n, s, t, rfl, hn, hm, q⟩ := h
    refine ⟨_, pss_cons (ps_set (i := 3) scWalk.nd rfl (.inl rfl) (pe_lst pa_nil))
      (pss_cons (ps_set (i := 4) scWalk.nd rfl (.inl rfl) (pv 1))
      (pss_cons (ps_for PassesOwn.never rfl (pi_range1 (by rfl) mR (pa_cons (pv 0) pa_nil)) (pg_name (i := 5) scWalk.nd rfl (.inl rfl))
        (pss_cons (ps_if (pt_cmpR op_eq (pv 4) (pv 2) (nomark _)) (pss_one ps_break) pss_nil)
        (pss_cons (ps_set (i := 4) scWalk.nd rfl (.inl rfl) (pe_op op_modN (pe_callTy call_int1 (by rfl) mI (by decide +kernel) (pa_cons (pe_op op_add (pv 4) pe_int) pa_nil)) (pv 0)))
        (pss_one (ps_expr (pe_bm PySem.F.plainAttrs_list PySem.F.slot_list_append PySem.F.type_list_append mt_append (pv 3) (pa_cons (pv 4) pa_nil)))))))
      (pss_one (ps_ret (pv 3))))), ?_⟩
    have n0 : 0 ≤ n := by omega
    refine ⟨Nat.zero_le _, fun p np => ⟨_, rfl, _, rfl, n, rfl, by omega, by omega, ?_⟩⟩
    refine for_range (lo := 0) (n := n.toNat) (fun i σ H' => i ≤ arcN n s t ∧ (∃ y, σ = [some (.int n), some (.int s), some (.int t), some (.ref p), some (.int (if n = 0 then s else (s + (i : Int)).fmod n)), y]) ∧ H' = upd H p (.lst (((arcL n s t).take i).map V.int))) ⟨Nat.zero_le _, ⟨none, ?_⟩, rfl⟩ (fun i σ H' hi pv => ?_) (fun σ H' pv => ?_)
    · have e : (if n = 0 then s else (s + ((0 : Nat) : Int)).fmod n) = s := by
        by_cases h : n = 0
        · rw [if_pos h]
        · rw [if_neg h, fmod_lo (by omega) (by omega)]
          omega
      rw [e]
      rfl
    · obtain ⟨hle, ⟨y, rfl⟩, rfl⟩ := pv
      have h1 : 0 < n := by omega
      have h2 : 0 ≤ s ∧ s < n ∧ 0 ≤ t ∧ t < n := by omega
      have hne : ¬ n = 0 := by omega
      have we := walk_end h2.1 h2.2.1 h2.2.2.1 h2.2.2.2 hle
      rw [if_neg hne]
      refine ⟨_, rfl, _, rfl, rfl, _, rfl, ite2 (fun e => ?_) (fun e => ?_)⟩
      · have e1 : i = arcN n s t := we.mp (V.int.inj (of_decide_eq_true e))
        refine ⟨_, rfl, q _ p (same_upd np) np ?_⟩
        rw [upd_same, e1, arcL_all]
      · have e1 : i ≠ arcN n s t := fun z => e (decide_eq_true (congrArg V.int (we.mpr z)))
        have hlt : i < arcN n s t := by omega
        refine ⟨_, rfl, _, _, rfl, rfl, .inl ⟨_, rfl, _, rfl, _, _, rfl, rfl, by omega, ?_⟩⟩
        have hN : arcN n s t ≤ 1000 := by
          have := fmod_in (t - s) h1
          unfold arcN
          omega
        refine ⟨_, rfl, .inl ⟨rfl, _, .inl (.inl upd_same)⟩, _, rfl, p, _, _, rfl, rfl, upd_same, ?_, ?_⟩
        · rw [List.length_map, List.length_take, arcL_len]
          exact Nat.lt_of_le_of_lt (Nat.min_le_right _ _) (small1000 hN)
        · refine ⟨hlt, ⟨some (.int (0 + (i : Int))), ?_⟩, ?_⟩
          · rw [if_neg hne]
            show [some (V.int n), some (V.int s), some (V.int t), some (V.ref p), some (V.int (((s + (i : Int)).fmod n + 1).fmod n)), _] = _
            rw [walk_on h1]
            rw [show ((i + 1 : Nat) : Int) = 1 + (i : Int) by omega]
          · rw [upd_upd, arcL_take n s t hlt, List.map_append]
            show upd H p (HO.lst (_ ++ [V.int (((s + (i : Int)).fmod n + 1).fmod n)])) = _
            rw [walk_on h1]
            rfl
    · obtain ⟨hle, ⟨y, rfl⟩, rfl⟩ := pv
      refine ⟨_, rfl, q _ p (same_upd np) np ?_⟩
      rw [upd_same]
      have e1 : n.toNat = arcN n s t := by
        rcases hn with ⟨h1, h2⟩ | ⟨h1, _⟩
        · subst h1
          subst h2
          rw [arcN_same]
          rfl
        · have := fmod_in (t - s) h1
          unfold arcN at hle ⊢
          omega
      rw [e1, arcL_all]
/-! ### apart -/
def tMin2 : TE := tCB (fun xs H Q => ∃ i j, xs = [V.int i, V.int j] ∧ Q (V.int (if j < i then j else i)) H) (tCons (tVar 0) (tCons (tVar 1) tNil))
def tMax2 : TE := tCB (fun xs H Q => ∃ i j, xs = [V.int i, V.int j] ∧ Q (V.int (if j > i then j else i)) H) (tCons (tVar 0) (tCons (tVar 1) tNil))
def spApart : Sp := fun vs H Q _ => ∃ a b c d : Int, vs = [.int a, .int b, .int c, .int d] ∧ ∀ H', Same H H' → Q (.bl (apartB a b c d)) H'
theorem ok_apart {f : Addr} {fd : FuncData} (F : Fun K "_law_apart" "_law_apart" sApart f fd) (mMin : mg "min" = none) (mMax : mg "max" = none) : FnOk P w K mg base CX0 1 f fd ["_law_w", "_law_x", "_law_y", "_law_z"] spApart := by
  refine F.ok scApart (fun vs H Q E h => ?_) (fun cdv A outer s H vs Q E hr h => ?_)
  · obtain ⟨a, b, c, d, rfl, _⟩ := h
    rfl
  · obtain ⟨a, b, c, d, rfl, q⟩ := h
    refine ⟨_, pss_cons (ps_if (PW.pt (pw_or (pt_cmpR op_in_seq (pv 0) (pe_lst (pa_cons (pv 1) (pa_cons (pv 2) (pa_cons (pv 3) pa_nil)))) (by rfl))
        (pw_or (pt_cmpR op_in_seq (pv 1) (pe_lst (pa_cons (pv 2) (pa_cons (pv 3) pa_nil))) (by rfl)) (pw_or1 (pt_cmpR op_eq (pv 2) (pv 3) (nomark _)))))) (pss_one (ps_ret pe_bl)) pss_nil)
      (pss_one (ps_ret (pe_cmpR op_ne
        (pe_chain op_lt op_lt (pe_callB (call_min2 rfl) (by rfl) mMin (by decide +kernel) (pa_cons (pv 0) (pa_cons (pv 1) pa_nil))) (pv 2) (pe_callB (call_max2 rfl) (by rfl) mMax (by decide +kernel) (pa_cons (pv 0) (pa_cons (pv 1) pa_nil))))
        (pe_chain op_lt op_lt (pe_callB (call_min2 rfl) (by rfl) mMin (by decide +kernel) (pa_cons (pv 0) (pa_cons (pv 1) pa_nil))) (pv 3) (pe_callB (call_max2 rfl) (by rfl) mMax (by decide +kernel) (pa_cons (pv 0) (pa_cons (pv 1) pa_nil)))) (nomark _)))), ?_⟩
    refine ⟨_, rfl, _, rfl, _, rfl, _, rfl, by show 3 ≤ sizeLine; decide, fun l hl => ⟨l, _, rfl, .inl (.inl (.inl upd_same)), rfl, rfl, _, rfl, ?_⟩⟩
    have s1 : Same H (upd H l (.lst [.int b, .int c, .int d])) := same_upd hl
    show if inV (.int a) (List.map V.int [b, c, d]) = true then _ else _
    rw [inV_ints]
    unfold apartB at q
    refine ite2 (fun e => ?_) (fun e => ⟨_, rfl, _, rfl, _, rfl, by show 2 ≤ sizeLine; decide, fun l2 hl2 => ⟨l2, _, rfl, .inl (.inl (.inl upd_same)), rfl, rfl, _, rfl, ?_⟩⟩)
    · have e1 := of_decide_eq_true e
      simp only [List.mem_cons, List.not_mem_nil, or_false] at e1
      have q1 := q _ s1
      rw [if_pos (.inl e1)] at q1
      exact q1
    · have e1 : ¬ a ∈ [b, c, d] := fun z => e (decide_eq_true z)
      simp only [List.mem_cons, List.not_mem_nil, or_false] at e1
      have s2 := s1.trans (same_upd (o := .lst [.int c, .int d]) hl2)
      show if inV (.int b) (List.map V.int [c, d]) = true then _ else _
      rw [inV_ints]
      refine ite2 (fun e2 => ?_) (fun e2 => ⟨_, rfl, _, rfl, rfl, _, rfl, ite2 (fun e3 => ?_) (fun e3 => ?_)⟩)
      · have e4 := of_decide_eq_true e2
        simp only [List.mem_cons, List.not_mem_nil, or_false] at e4
        have q1 := q _ s2
        rw [if_pos (.inr (.inl e4))] at q1
        exact q1
      · have q1 := q _ s2
        rw [if_pos (.inr (.inr (V.int.inj (of_decide_eq_true e3))))] at q1
        exact q1
      · have e4 : ¬ b ∈ [c, d] := fun z => e2 (decide_eq_true z)
        simp only [List.mem_cons, List.not_mem_nil, or_false] at e4
        have e5 : ¬ c = d := fun z => e3 (decide_eq_true (congrArg V.int z))
        have q1 := q _ s2
        rw [if_neg (fun z => by rcases z with z | z | z <;> contradiction)] at q1
        refine rd_btw (ta := tMin2) (tb := tVar 2) (tc := tMax2) (l := lo a b) (x := c) (h := hi a b) (fun Q h => ⟨_, rfl, _, rfl, _, _, rfl, h⟩) (fun Q h => ⟨_, rfl, h⟩) (fun Q h => ⟨_, rfl, _, rfl, _, _, rfl, h⟩) ?_
        refine rd_btw (ta := tMin2) (tb := tVar 3) (tc := tMax2) (l := lo a b) (x := d) (h := hi a b) (fun Q h => ⟨_, rfl, _, rfl, _, _, rfl, h⟩) (fun Q h => ⟨_, rfl, h⟩) (fun Q h => ⟨_, rfl, _, rfl, _, _, rfl, h⟩) ⟨rfl, ?_⟩
        rw [ne_bl]
        exact q1
/-! ### a cell of the script: some number -/
def spCell (K : PySem.W.Frag) : Sp := fun vs H Q _ => ∃ (l : Addr) (ns : List Int) (j : Nat), vs = [.ref l, .int (j : Int)] ∧ SqL K H l (ns.map V.int) ∧ j ≤ 100000 ∧ ns.length ≤ 1000 ∧ ∀ c : Int, Q (.int c) H
theorem ok_cell {f : Addr} {fd : FuncData} (F : Fun K "_law_cell" "_law_cell" sCell f fd) (mL : mg "len" = none) (mI : mg "int" = none) : FnOk P w K mg base CX0 1 f fd ["_law_script", "_law_k"] (spCell K) := by
  refine F.ok scCell (fun vs H Q E h => ?_) (fun cdv A outer s H vs Q E hr h => ?_)
  · obtain ⟨l, ns, j, rfl, _⟩ := h
    rfl
  · obtain ⟨l, ns, j, rfl, hs, hj, hn, q⟩ := h
    refine ⟨_, pss_cons (ps_if (pt_cmpR op_lt (pv 1) (pe_callB call_len_seq (by rfl) mL PySem.boot_len (pa_cons (pv 0) pa_nil)) (nomark _)) (pss_one (ps_ret (pe_ix ix_list (pv 0) (pv 1) (fun _ _ => rfl)))) pss_nil)
      (pss_cons (ps_set (i := 2) scCell.nd rfl (.inl rfl) pe_int)
      (pss_cons (ps_for PassesOwn.never rfl (pi_list (pv 0)) (pg_name (i := 3) scCell.nd rfl (.inl rfl))
        (pss_one (ps_set (i := 2) scCell.nd rfl (.inl rfl) (pe_op op_mod (pe_callTy call_int1 (by rfl) mI (by decide +kernel) (pa_cons (pe_op op_add (pe_op op_mul (pv 2) pe_int) (pe_op op_mod (pe_callTy call_int1 (by rfl) mI (by decide +kernel) (pa_cons (pv 3) pa_nil)) pe_int)) pa_nil)) pe_int))))
      (pss_one (ps_ret (pe_op op_mod (pe_callTy call_int1 (by rfl) mI (by decide +kernel) (pa_cons (pe_op op_mul (pe_op op_mul (pe_op op_add (pv 2) pe_int) (pe_op op_add (pv 1) pe_int)) pe_int) pa_nil)) pe_int))))), ?_⟩
    refine ⟨_, rfl, _, rfl, l, _, rfl, .inl hs, _, _, rfl, rfl, _, rfl, ite2 (fun e => ?_) (fun e => ?_)⟩
    · have e1 : (j : Int) < ((ns.map V.int).length : Int) := of_decide_eq_true e
      rw [List.length_map] at e1
      have hj2 : j < ns.length := by omega
      have g : (ns.map V.int)[j]? = some (.int ns[j]) := by
        rw [List.getElem?_map, List.getElem?_eq_getElem hj2]
        rfl
      exact ⟨_, rfl, _, rfl, _, _, _, _, rfl, rfl, hs, atI_nat g, q _⟩
    · refine ⟨_, rfl, l, rfl, ⟨_, hs⟩, for_list (xs := ns.map V.int) (fun i σ H' => (∃ (z : Int) (y : Option V), 0 ≤ z ∧ z < 1000003 ∧ σ = [some (.ref l), some (.int (j : Int)), some (.int z), y]) ∧ H' = H) ⟨⟨17, none, by decide, by decide, rfl⟩, rfl⟩ (fun i σ H' _ p => by rw [p.2]; exact hs) (fun i x σ H' hx p => ?_) (fun σ H' p => ?_)⟩
      · obtain ⟨⟨z, y, z0, z1, rfl⟩, rfl⟩ := p
        obtain ⟨c, rfl⟩ : ∃ c, x = .int c := by
          rw [List.getElem?_map] at hx
          cases e2 : ns[i]? with
          | none => rw [e2] at hx; cases hx
          | some c =>
            rw [e2] at hx
            exact ⟨c, (Option.some.inj hx).symm⟩
        refine ⟨_, rfl, _, _, rfl, rfl, .inl ⟨by omega, by omega⟩, _, rfl, .inl ⟨_, rfl, _, _, rfl, rfl, by show (0 : Int) < 1000003; decide, _, _, rfl, rfl, .inl ⟨_, rfl, _, _, rfl, rfl, by show (0 : Int) < 1000003; decide, ?_⟩⟩⟩
        exact ⟨⟨_, _, Int.emod_nonneg _ (by decide), Int.emod_lt_of_pos _ (by decide), rfl⟩, rfl⟩
      · obtain ⟨⟨z, y, z0, z1, rfl⟩, rfl⟩ := p
        have hp : (z + 7) * ((j : Int) + 3) < 2 ^ 64 ∧ -(2 ^ 64) < (z + 7) * ((j : Int) + 3) := by
          have a1 : 0 ≤ z + 7 := by omega
          have a2 : z + 7 ≤ 1000010 := by omega
          have b1 : 0 ≤ (j : Int) + 3 := by omega
          have b2 : (j : Int) + 3 ≤ 100003 := by omega
          have c1 : (z + 7) * ((j : Int) + 3) ≤ 1000010 * 100003 := Int.mul_le_mul a2 b2 b1 (by decide)
          have c2 : 0 ≤ (z + 7) * ((j : Int) + 3) := Int.mul_nonneg a1 b1
          omega
        exact ⟨_, rfl, _, _, rfl, rfl, _, rfl, _, _, rfl, rfl, _, _, rfl, rfl, .inl ⟨by omega, by omega⟩, _, _, rfl, rfl, .inl ⟨hp.2, hp.1⟩, .inl ⟨_, rfl, _, _, rfl, rfl, by show (0 : Int) < 2147483647; decide, q _⟩⟩
end
end Rims

namespace Rims
open PySem PySem.Spec PyProof.Rows L2
theorem scRim : FnScope ["_law_rim_here", "_law_start", "_law_near", "_law_stop", "_law_met", "_law_back", "_law_away", "_law_due"] ["_law_rim_here", "_law_start", "_law_near"] (defScope sRim) := ⟨rfl, rfl, rfl, by decide +kernel, rfl, by decide +kernel, by decide +kernel⟩
theorem scFour : FnScope ["_law_w", "_law_x", "_law_y", "_law_z", "_law_due"] ["_law_w", "_law_x", "_law_y", "_law_z"] (defScope sFour) := ⟨rfl, rfl, rfl, by decide +kernel, rfl, by decide +kernel, by decide +kernel⟩
/-! ### a call by keywords alone -/
section
variable {X : Cx} {CX : CXT} {k : Nat} {f : Addr} {fd : FuncData} {ps ks : List Str} {sp : Sp} {E : XK} {x : Str} {p pos : Pos} {kws : List Keyword} {tk : TA} {g : List Value → List Value → List Value} {gV : List V → List V → List V}
theorem pe_callK0 (F : FnOk X.prog X.w X.K X.mg X.base CX k f fd ps sp) (hr : Room k X.A) (hg : Gl X x) (hm : X.mg x = some (.ref f)) (hk : PySem.W.keepIn X.K (.ref f) = true) (hb : KBn X.K fd ps 0 ks g gV) (hx : Passes CX X E)
    (hkw : PK X kws tk) (hall : (backToKw pos (keywordEach kws X.env)).all (·.1.isSome) = true := by rfl) (hks : (backToKw pos (keywordEach kws X.env)).filterMap (·.1) = ks := by rfl)
    (hdb : (x == ("__debug__" : Str)) = false := by decide)
    (hpl : ((backTo pos (starEach [] X.env)).any (·.1) || (backToKw pos (keywordEach kws X.env)).any (·.1.isNone)) = false := by rfl) :
    PE X (.Call (.Name x p) [] kws pos) (tCallN 0 ks.length sp gV E tNil tk) := by
  refine ⟨fun pins s σ H Q I h => ?_⟩
  refine wpAny_Call_Name_kw (ld_glob I hg hm ?_ hdb)
  refine PySem.W.callWith_KW0 (h₀ := X.base) I.ok.mod.kin hk hall ?_ hpl
  refine thn (hkw.run pos pins s σ H _ I h) fun ws s2 ⟨zs, H2, I2, rz, l1, l2, q2⟩ => ⟨I2.kIn, ?_⟩
  rw [hks]
  exact run_fnN (us := []) (vs := []) F hr hb hx I2 .nil rz rfl l2 q2
end
section
variable {P : Program} {w : World} {K : PySem.W.Frag} {mg : Str → Option Value} {base : Heap}
theorem kb_same {x qual : Str} {st : Stmt} {f : Addr} {fd : FuncData} {ps : List Str} (F : Fun K x qual st f fd)
    (h : ∀ (kV doc pm : Value) (an : Option Addr) (cdv ct : Value) (ws : List Value), ws.length = ps.length → bindArgs (PySem.W.fnOf x qual (defArgs st) (defBody st) (defScope st) .none kV doc pm an cdv ct) ⟨[], ps.zip ws⟩ = pure (ps.zip ws)) :
    KBn K fd ps 0 ps (fun _ ws => ws) (fun _ zs => zs) := by
  obtain ⟨oc, od, kV, doc, pm, an, cdv, ct, osl, rfl, lk, hcd⟩ := F.ex
  refine ⟨fun s us ws _ hu hw => ?_, fun _ r => r⟩
  have e : us = [] := List.length_eq_zero_iff.mp hu
  subst e
  exact .of_eq (h kV doc pm an cdv ct ws hw)
/-! ### what the top has written -/
structure Top (K : PySem.W.Frag) (mg : Str → Option Value) (f1 f2 f3 f4 f6 f7 f8 f9 f10 f11 f12 f13 : Addr) (d1 d2 d3 d4 d6 d7 d8 d9 d10 d11 d12 d13 : FuncData) : Prop where
  gaps : Df K mg "gaps" sGaps ["pins"] f1 d1
  arc : Df K mg "arc" sArc ["pins", "first", "last"] f2 d2
  parts : Df K mg "parts" sParts ["pins", "one", "other", "first", "last"] f3 d3
  crosses : Df K mg "crosses" sCrosses ["a", "b", "c", "d"] f4 d4
  whole : Df K mg "_law_whole" sWhole ["_law_value"] f6 d6
  cell : Df K mg "_law_cell" sCell ["_law_script", "_law_k"] f7 d7
  truth : Df K mg "_law_truth" sTruth ["_law_value", "_law_due"] f8 d8
  row : Df K mg "_law_row" sRow ["_law_value", "_law_due"] f9 d9
  walk : Df K mg "_law_walk" sWalk ["_law_rim_here", "_law_start", "_law_stop"] f10 d10
  apart : Df K mg "_law_apart" sApart ["_law_w", "_law_x", "_law_y", "_law_z"] f11 d11
  rim : Df K mg "_law_rim" sRim ["_law_rim_here", "_law_start", "_law_near"] f12 d12
  four : Df K mg "_law_four" sFour ["_law_w", "_law_x", "_law_y", "_law_z"] f13 d13
  mMax : mg "max" = none
  mMin : mg "min" = none
  mTup : mg "tuple" = none
  mRng : mg "range" = none
  mIsi : mg "isinstance" = none
  mInt : mg "int" = none
  mBool : mg "bool" = none
  mLen : mg "len" = none
variable {f1 f2 f3 f4 f6 f7 f8 f9 f10 f11 f12 f13 : Addr} {d1 d2 d3 d4 d6 d7 d8 d9 d10 d11 d12 d13 : FuncData}
/-! ### one rim -/
def rimOk (n s : Int) : Prop := (n = 0 ∧ s = 0) ∨ (0 < n ∧ 0 ≤ s ∧ s < n)
def spRim : Sp := fun vs H Q _ => ∃ n s a : Int, vs = [.int n, .int s, .int a] ∧ rimOk n s ∧ rimOk n a ∧ n ≤ 1000 ∧ ∀ H', Same H H' → Q (.bl true) H'
theorem ok_rim (T : Top K mg f1 f2 f3 f4 f6 f7 f8 f9 f10 f11 f12 f13 d1 d2 d3 d4 d6 d7 d8 d9 d10 d11 d12 d13) : FnOk P w K mg base CX0 3 f12 d12 ["_law_rim_here", "_law_start", "_law_near"] spRim := by
  have GA : FnOk P w K mg base CX0 1 f2 d2 ["pins", "first", "last"] spArc := ok_arc T.arc.F T.mTup T.mRng
  have GP : FnOk P w K mg base CX0 2 f3 d3 ["pins", "one", "other", "first", "last"] spParts := ok_parts T.parts.F T.arc T.mTup T.mRng
  have GT : FnOk P w K mg base CX0 1 f8 d8 ["_law_value", "_law_due"] spTruth := ok_truth T.truth.F
  have GR : FnOk P w K mg base CX0 2 f9 d9 ["_law_value", "_law_due"] (spRow K) := ok_row T.row.F T.whole T.mIsi T.mInt T.mBool T.mTup T.mLen T.mRng
  have GW : FnOk P w K mg base CX0 1 f10 d10 ["_law_rim_here", "_law_start", "_law_stop"] spWalk := ok_walk T.walk.F T.mRng T.mInt
  refine T.rim.F.ok scRim (fun vs H Q E h => ?_) (fun cdv A outer s H vs Q E hr h => ?_)
  · obtain ⟨n, s, a, rfl, _⟩ := h
    rfl
  · obtain ⟨n, s, a, rfl, hs, ha, hm, q⟩ := h
    refine ⟨_, pss_cons (ps_for PassesOwn.never rfl (pi_range1 (by rfl) T.mRng (pa_cons (pe_callB (call_max2 rfl) (by rfl) T.mMax (by decide +kernel) (pa_cons (pv 0) (pa_cons pe_int pa_nil))) pa_nil)) (pg_name (i := 3) scRim.nd rfl (.inl rfl))
      (pss_cons (ps_set (i := 4) scRim.nd rfl (.inl rfl) (pe_call GW (hr.mono (by decide)) (by rfl) T.walk.g T.walk.F.kp T.walk.b .nil pass0 (pa_cons (pv 0) (pa_cons (pv 1) (pa_cons (pv 3) pa_nil)))))
      (pss_cons (ps_if (pt_not (pt_val (pe_call GR hr (by rfl) T.row.g T.row.F.kp T.row.b .nil pass0 (pa_cons (pe_call GA (hr.mono (by decide)) (by rfl) T.arc.g T.arc.F.kp T.arc.b .nil pass0 (pa_cons (pv 0) (pa_cons (pv 1) (pa_cons (pv 3) pa_nil)))) (pa_cons (pv 4) pa_nil))))) (pss_one (ps_ret pe_bl)) pss_nil)
      (pss_cons (ps_set (i := 5) scRim.nd rfl (.inl rfl) (pe_call GW (hr.mono (by decide)) (by rfl) T.walk.g T.walk.F.kp T.walk.b .nil pass0 (pa_cons (pv 0) (pa_cons (pv 3) (pa_cons (pv 1) pa_nil)))))
      (pss_cons (ps_if (pt_not (pt_val (pe_call GR hr (by rfl) T.row.g T.row.F.kp T.row.b .nil pass0 (pa_cons (pe_call GA (hr.mono (by decide)) (by rfl) T.arc.g T.arc.F.kp T.arc.b .nil pass0 (pa_cons (pv 0) (pa_cons (pv 3) (pa_cons (pv 1) pa_nil)))) (pa_cons (pv 5) pa_nil))))) (pss_one (ps_ret pe_bl)) pss_nil)
      (pss_one (ps_for PassesOwn.never rfl (pi_range1 (by rfl) T.mRng (pa_cons (pv 0) pa_nil)) (pg_name (i := 6) scRim.nd rfl (.inl rfl))
        (pss_cons (ps_set (i := 7) scRim.nd rfl (.inl rfl) (pe_cmpR op_ne (pe_cmpR op_in_seq (pv 2) (pv 4) (by rfl)) (pe_cmpR op_in_seq (pv 6) (pv 4) (by rfl)) (nomark _)))
        (pss_cons (ps_if (pt_not (pt_val (pe_call GT (hr.mono (by decide)) (by rfl) T.truth.g T.truth.F.kp T.truth.b .nil pass0 (pa_cons (pe_call GP hr (by rfl) T.parts.g T.parts.F.kp T.parts.b .nil pass0 (pa_cons (pv 0) (pa_cons (pv 2) (pa_cons (pv 6) (pa_cons (pv 1) (pa_cons (pv 3) pa_nil)))))) (pa_cons (pv 7) pa_nil))))) (pss_one (ps_ret pe_bl)) pss_nil)
        (pss_one (ps_if (pt_not (pt_val (pe_call GT (hr.mono (by decide)) (by rfl) T.truth.g T.truth.F.kp T.truth.b .nil pass0 (pa_cons (pe_call GP hr (by rfl) T.parts.g T.parts.F.kp T.parts.b .nil pass0 (pa_cons (pv 0) (pa_cons (pv 6) (pa_cons (pv 2) (pa_cons (pv 3) (pa_cons (pv 1) pa_nil)))))) (pa_cons (pv 7) pa_nil))))) (pss_one (ps_ret pe_bl)) pss_nil)))))))))))
      (pss_one (ps_ret pe_bl)), ?_⟩
    have n0 : 0 ≤ n := by rcases hs with h | h <;> omega
    refine ⟨_, rfl, n, 1, rfl, (if 1 > n then 1 else n), rfl, ?_, ?_, ?_⟩
    · split <;> omega
    · split <;> omega
    refine for_range (lo := 0) (n := (if 1 > n then 1 else n).toNat) (fun i σ H' => (∃ y3 y4 y5 y6 y7, σ = [some (.int n), some (.int s), some (.int a), y3, y4, y5, y6, y7]) ∧ Same H H') ⟨⟨_, _, _, _, _, rfl⟩, Same.refl H⟩ (fun i σ H' hi p => ?_) (fun σ H' p => q H' p.2)
    obtain ⟨⟨y3, y4, y5, y6, y7, rfl⟩, sm⟩ := p
    -- the stop: 0 + i
    have ht : rimOk n (0 + (i : Int)) := by
      unfold rimOk
      rcases hs with h | h
      · left
        rw [h.1] at hi ⊢
        rw [if_pos (by decide)] at hi
        omega
      · right
        rw [if_neg (by omega)] at hi
        omega
    generalize (0 + (i : Int)) = t at ht
    have hw1 : (n = 0 ∧ s = t) ∨ (0 < n ∧ 0 ≤ s ∧ s < n ∧ 0 ≤ t ∧ t < n) := by
      rcases hs with h | h <;> rcases ht with h' | h' <;> omega
    have hw2 : (n = 0 ∧ t = s) ∨ (0 < n ∧ 0 ≤ t ∧ t < n ∧ 0 ≤ s ∧ s < n) := by
      rcases hs with h | h <;> rcases ht with h' | h' <;> omega
    have ha1 : s = t ∨ 0 < n := by omega
    have ha2 : t = s ∨ 0 < n := by omega
    have hL : ∀ u v : Int, (u = v ∨ 0 < n) → (arcL n u v).length ≤ 1000 := fun u v huv => by
      rw [arcL_len]
      by_cases h : u = v
      · rw [h, arcN_same]
        omega
      · have := fmod_in (v - u) (huv.resolve_left h)
        unfold arcN
        omega
    refine ⟨_, rfl, _, rfl, _, rfl, n, s, t, rfl, hw1, hm, fun H1 p1 sm1 np1 ep1 => ?_⟩
    refine ⟨_, rfl, _, rfl, _, rfl, n, s, t, rfl, ha1, hm, fun H2 p2 sm2 np2 ep2 => ?_⟩
    have l2 : SqL K H2 p1 ((arcL n s t).map V.int) := .inl (.inl (sm2 _ _ ep1))
    refine ⟨_, rfl, p2, p1, _, rfl, ep2, l2, hL s t ha1, _, rfl, ?_⟩
    refine ⟨_, rfl, _, rfl, _, rfl, n, t, s, rfl, hw2, hm, fun H3 p3 sm3 np3 ep3 => ?_⟩
    refine ⟨_, rfl, _, rfl, _, rfl, n, t, s, rfl, ha2, hm, fun H4 p4 sm4 np4 ep4 => ?_⟩
    have l4 : SqL K H4 p3 ((arcL n t s).map V.int) := .inl (.inl (sm4 _ _ ep3))
    refine ⟨_, rfl, p4, p3, _, rfl, ep4, l4, hL t s ha2, _, rfl, ?_⟩
    refine ⟨_, rfl, n, rfl, by omega, by omega, ?_⟩
    have sm14 : Same H1 H4 := (sm2.trans sm3).trans sm4
    have sm04 : Same H H4 := (sm.trans sm1).trans sm14
    refine for_range (lo := 0) (n := n.toNat) (fun j σ H' => (∃ y6 y7, σ = [some (.int n), some (.int s), some (.int a), some (.int t), some (.ref p1), some (.ref p3), y6, y7]) ∧ Same H1 H' ∧ Same H H') ⟨⟨_, _, rfl⟩, sm14, sm04⟩ (fun j σ H' hj p => ?_) (fun σ H' p => ?_)
    · obtain ⟨⟨y6, y7, rfl⟩, sA, sB⟩ := p
      have hb : 0 ≤ (0 + (j : Int)) ∧ (0 + (j : Int)) < n := by omega
      generalize (0 + (j : Int)) = b at hb
      have h1 : 0 < n := by omega
      have hs2 : 0 ≤ s ∧ s < n := by rcases hs with h | h <;> omega
      have ha3 : 0 ≤ a ∧ a < n := by rcases ha with h | h <;> omega
      have ht2 : 0 ≤ t ∧ t < n := by rcases ht with h | h <;> omega
      have lA : SqL K H' p1 ((arcL n s t).map V.int) := .inl (.inl (sA _ _ ep1))
      refine ⟨_, rfl, _, rfl, p1, _, rfl, .inl lA, rfl, flat_ints _, _, rfl, _, rfl, p1, _, rfl, .inl lA, rfl, flat_ints _, rfl, ?_⟩
      have e : (!decide (V.bl (inV (.int a) ((arcL n s t).map V.int)) = V.bl (inV (.int b) ((arcL n s t).map V.int)))) = partB n a b s t := by
        rw [ne_bl, inV_ints, inV_ints]
        rfl
      show gName 7 (.bl (!decide (V.bl (inV (.int a) ((arcL n s t).map V.int)) = V.bl (inV (.int b) ((arcL n s t).map V.int))))) _ _ _
      rw [e]
      refine ⟨_, rfl, _, rfl, _, rfl, _, rfl, _, rfl, n, a, b, s, t, rfl, ha1, hm, fun H5 sm5 => ?_⟩
      refine ⟨_, rfl, partB n a b s t, rfl, _, rfl, ?_⟩
      refine ⟨_, rfl, _, rfl, _, rfl, _, rfl, _, rfl, n, b, a, t, s, rfl, ha2, hm, fun H6 sm6 => ?_⟩
      refine ⟨_, rfl, partB n a b s t, ?_, _, rfl, ?_⟩
      · rw [part_back hs2.1 hs2.2 ht2.1 ht2.2 ha3.1 ha3.2 hb.1 hb.2]
        rfl
      · exact ⟨⟨_, _, rfl⟩, (sA.trans sm5).trans sm6, (sB.trans sm5).trans sm6⟩
    · obtain ⟨⟨y6, y7, rfl⟩, sA, sB⟩ := p
      exact ⟨⟨_, _, _, _, _, rfl⟩, sB⟩
/-! ### four pins -/
def spFour : Sp := fun vs H Q _ => ∃ a b c d : Int, vs = [.int a, .int b, .int c, .int d] ∧ ∀ H', Same H H' → Q (.bl true) H'
theorem ok_four (T : Top K mg f1 f2 f3 f4 f6 f7 f8 f9 f10 f11 f12 f13 d1 d2 d3 d4 d6 d7 d8 d9 d10 d11 d12 d13) : FnOk P w K mg base CX0 2 f13 d13 ["_law_w", "_law_x", "_law_y", "_law_z"] spFour := by
  have GC : FnOk P w K mg base CX0 1 f4 d4 ["a", "b", "c", "d"] spCrosses := ok_crosses T.crosses.F T.mMin T.mMax
  have GT : FnOk P w K mg base CX0 1 f8 d8 ["_law_value", "_law_due"] spTruth := ok_truth T.truth.F
  have GA : FnOk P w K mg base CX0 1 f11 d11 ["_law_w", "_law_x", "_law_y", "_law_z"] spApart := ok_apart T.apart.F T.mMin T.mMax
  refine T.four.F.ok scFour (fun vs H Q E h => ?_) (fun cdv A outer s H vs Q E hr h => ?_)
  · obtain ⟨a, b, c, d, rfl, _⟩ := h
    rfl
  · obtain ⟨a, b, c, d, rfl, q⟩ := h
    refine ⟨_, pss_cons (ps_set (i := 4) scFour.nd rfl (.inl rfl) (pe_call GA hr (by rfl) T.apart.g T.apart.F.kp T.apart.b .nil pass0 (pa_cons (pv 0) (pa_cons (pv 1) (pa_cons (pv 2) (pa_cons (pv 3) pa_nil))))))
      (pss_cons (ps_if (PW.pt (pw_or (pt_not (pt_val (pe_call GT hr (by rfl) T.truth.g T.truth.F.kp T.truth.b .nil pass0 (pa_cons (pe_call GC hr (by rfl) T.crosses.g T.crosses.F.kp T.crosses.b .nil pass0 (pa_cons (pv 0) (pa_cons (pv 1) (pa_cons (pv 2) (pa_cons (pv 3) pa_nil))))) (pa_cons (pv 4) pa_nil)))))
        (pw_or1 (pt_not (pt_val (pe_call GT hr (by rfl) T.truth.g T.truth.F.kp T.truth.b .nil pass0 (pa_cons (pe_call GC hr (by rfl) T.crosses.g T.crosses.F.kp T.crosses.b .nil pass0 (pa_cons (pv 2) (pa_cons (pv 3) (pa_cons (pv 0) (pa_cons (pv 1) pa_nil))))) (pa_cons (pv 4) pa_nil)))))))) (pss_one (ps_ret pe_bl)) pss_nil)
      (pss_one (ps_ret (pe_and (pe_call GT hr (by rfl) T.truth.g T.truth.F.kp T.truth.b .nil pass0 (pa_cons (pe_call GC hr (by rfl) T.crosses.g T.crosses.F.kp T.crosses.b .nil pass0 (pa_cons (pv 1) (pa_cons (pv 0) (pa_cons (pv 2) (pa_cons (pv 3) pa_nil))))) (pa_cons (pv 4) pa_nil)))
        (pe_one (pe_call GT hr (by rfl) T.truth.g T.truth.F.kp T.truth.b .nil pass0 (pa_cons (pe_call GC hr (by rfl) T.crosses.g T.crosses.F.kp T.crosses.b .nil pass0 (pa_cons (pv 0) (pa_cons (pv 1) (pa_cons (pv 3) (pa_cons (pv 2) pa_nil))))) (pa_cons (pv 4) pa_nil)))))))), ?_⟩
    refine ⟨_, rfl, _, rfl, _, rfl, _, rfl, a, b, c, d, rfl, fun H1 sm => ?_⟩
    refine ⟨_, rfl, _, rfl, _, rfl, _, rfl, a, b, c, d, rfl, _, rfl, apartB a b c d, by rw [cross1]; rfl, _, rfl, ?_⟩
    refine ⟨_, rfl, _, rfl, _, rfl, _, rfl, c, d, a, b, rfl, _, rfl, apartB a b c d, by rw [cross2]; rfl, _, rfl, ?_⟩
    refine ⟨_, rfl, _, rfl, _, rfl, _, rfl, b, a, c, d, rfl, _, rfl, apartB a b c d, by rw [cross3]; rfl, _, rfl, ?_⟩
    exact ⟨_, rfl, _, rfl, _, rfl, _, rfl, a, b, d, c, rfl, _, rfl, apartB a b c d, by rw [cross4]; rfl, q H1 sm⟩
end
end Rims

namespace Rims
open PySem PySem.Spec PyProof.Rows L2
abbrev NL : List Str := ["_law_script", "_law_rim_here", "_law_start", "_law_near", "_law_stop", "_law_k", "_law_told", "_law_w", "_law_x", "_law_y", "_law_z", "_law_met", "_law_due"]
theorem scLaw : FnScope NL ["_law_script"] (defScope sLaw) := ⟨rfl, rfl, rfl, by decide +kernel, rfl, by decide +kernel, by decide +kernel⟩
section
variable {P : Program} {w : World} {K : PySem.W.Frag} {mg : Str → Option Value} {base : Heap}
variable {f1 f2 f3 f4 f6 f7 f8 f9 f10 f11 f12 f13 : Addr} {d1 d2 d3 d4 d6 d7 d8 d9 d10 d11 d12 d13 : FuncData}
def spLaw (K : PySem.W.Frag) : Sp := fun vs H Q _ => ∃ (l : Addr) (ns : List Int), vs = [.ref l] ∧ SqL K H l (ns.map V.int) ∧ ns.length ≤ 63 ∧ ∀ H', Q (.bl true) H'
theorem hi_pos (n : Int) (h : 0 ≤ n) : 0 < (if 1 > n then 1 else n) ∧ (n = 0 → (if 1 > n then 1 else n) = 1) ∧ (0 < n → (if 1 > n then 1 else n) = n) := by
  split <;> omega
theorem rim_mod {n c : Int} (h : 0 ≤ n) : rimOk n (c.fmod (if 1 > n then 1 else n)) := by
  obtain ⟨h1, h2, h3⟩ := hi_pos n h
  have h4 := fmod_in c h1
  unfold rimOk
  by_cases e : n = 0
  · left
    have := h2 e
    omega
  · right
    have := h3 (by omega)
    omega
theorem ok_law {f : Addr} {fd : FuncData} (F : Fun K "law" "law" sLaw f fd) (T : Top K mg f1 f2 f3 f4 f6 f7 f8 f9 f10 f11 f12 f13 d1 d2 d3 d4 d6 d7 d8 d9 d10 d11 d12 d13) : FnOk P w K mg base CX0 4 f fd ["_law_script"] (spLaw K) := by
  have GG : FnOk P w K mg base CX0 1 f1 d1 ["pins"] spGaps := ok_gaps T.gaps.F T.mMax
  have GA : FnOk P w K mg base CX0 1 f2 d2 ["pins", "first", "last"] spArc := ok_arc T.arc.F T.mTup T.mRng
  have GP : FnOk P w K mg base CX0 2 f3 d3 ["pins", "one", "other", "first", "last"] spParts := ok_parts T.parts.F T.arc T.mTup T.mRng
  have GC : FnOk P w K mg base CX0 1 f4 d4 ["a", "b", "c", "d"] spCrosses := ok_crosses T.crosses.F T.mMin T.mMax
  have GH : FnOk P w K mg base CX0 1 f6 d6 ["_law_value"] spWhole := ok_whole T.whole.F T.mIsi T.mInt T.mBool
  have GL : FnOk P w K mg base CX0 1 f7 d7 ["_law_script", "_law_k"] (spCell K) := ok_cell T.cell.F T.mLen T.mInt
  have GT : FnOk P w K mg base CX0 1 f8 d8 ["_law_value", "_law_due"] spTruth := ok_truth T.truth.F
  have GR : FnOk P w K mg base CX0 2 f9 d9 ["_law_value", "_law_due"] (spRow K) := ok_row T.row.F T.whole T.mIsi T.mInt T.mBool T.mTup T.mLen T.mRng
  have GW : FnOk P w K mg base CX0 1 f10 d10 ["_law_rim_here", "_law_start", "_law_stop"] spWalk := ok_walk T.walk.F T.mRng T.mInt
  have GS : FnOk P w K mg base CX0 1 f11 d11 ["_law_w", "_law_x", "_law_y", "_law_z"] spApart := ok_apart T.apart.F T.mMin T.mMax
  have GM : FnOk P w K mg base CX0 3 f12 d12 ["_law_rim_here", "_law_start", "_law_near"] spRim := ok_rim T
  have GF : FnOk P w K mg base CX0 2 f13 d13 ["_law_w", "_law_x", "_law_y", "_law_z"] spFour := ok_four T
  have kG := kb_same (ps := ["pins"]) T.gaps.F fun _ _ _ _ _ _ ws hl => match ws, hl with | [_], _ => rfl
  have kA := kb_same (ps := ["pins", "first", "last"]) T.arc.F fun _ _ _ _ _ _ ws hl => match ws, hl with | [_, _, _], _ => rfl
  have kP := kb_same (ps := ["pins", "one", "other", "first", "last"]) T.parts.F fun _ _ _ _ _ _ ws hl => match ws, hl with | [_, _, _, _, _], _ => rfl
  have kC := kb_same (ps := ["a", "b", "c", "d"]) T.crosses.F fun _ _ _ _ _ _ ws hl => match ws, hl with | [_, _, _, _], _ => rfl
  refine F.ok scLaw (fun vs H Q E h => ?_) (fun cdv A outer s H vs Q E hr h => ?_)
  · obtain ⟨l, ns, rfl, _⟩ := h
    rfl
  · obtain ⟨l, ns, rfl, hs, hn, q⟩ := h
    have hr1 : Room 1 (A.deeper (envOfC "law" (defScope sLaw) s.heap.objs.size f cdv)) := hr.mono (by decide)
    have hr2 : Room 2 (A.deeper (envOfC "law" (defScope sLaw) s.heap.objs.size f cdv)) := hr.mono (by decide)
    obtain ⟨tR2, hR2, qR2⟩ : ∃ t, PSs (cxOf CX0 P w K mg base NL "law" (defScope sLaw) f cdv A outer s H E).nox ((defBody sLaw).drop 15) t ∧ ∀ (n st nr sp vw vx vy : Int) (y5 y6 y10 y12 : Option V) (p : Addr) (H' : Hp), (st = sp ∨ 0 < n) → n ≤ 1000 → (arcL n st sp).length ≤ 1000 → H' p = some (.lst ((arcL n st sp).map V.int)) → t { nx := fun _ H' => Q .non H', rt := Q } [some (.ref l), some (.int n), some (.int st), some (.int nr), some (.int sp), y5, y6, some (.int vw), some (.int vx), some (.int vy), y10, some (.ref p), y12] H' := by
      refine ⟨_, (pss_cons (ps_if (pt_not (pt_val (pe_call GT hr1 (by rfl) T.truth.g T.truth.F.kp T.truth.b .nil pass0 (pa_cons (pe_callK0 GC hr1 (by rfl) T.crosses.g T.crosses.F.kp kC pass0 (pk_cons (pv 7) (pk_cons (pv 8) (pk_cons (pv 9) (pk_cons (pv 3) pk_nil))))) (pa_cons (pe_call GS hr1 (by rfl) T.apart.g T.apart.F.kp T.apart.b .nil pass0 (pa_cons (pv 7) (pa_cons (pv 8) (pa_cons (pv 9) (pa_cons (pv 3) pa_nil))))) pa_nil))))) (pss_one (ps_ret pe_bl)) pss_nil)
        (pss_one (ps_ret (pe_and (pe_call GR hr2 (by rfl) T.row.g T.row.F.kp T.row.b .nil pass0 (pa_cons (pe_callK0 GA hr1 (by rfl) T.arc.g T.arc.F.kp kA pass0 (pk_cons (pv 1) (pk_cons (pv 2) (pk_cons (pv 4) pk_nil)))) (pa_cons (pv 11) pa_nil))) (pe_one (pe_call GR hr2 (by rfl) T.row.g T.row.F.kp T.row.b .nil pass0 (pa_cons (pe_call GA hr1 (by rfl) T.arc.g T.arc.F.kp T.arc.b .nil pass0 (pa_cons (pv 1) (pa_cons (pv 2) (pa_cons (pv 4) pa_nil)))) (pa_cons (pv 11) pa_nil)))))))), ?_⟩
      intro n st nr sp vw vx vy y5 y6 y10 y12 p H' ha1 hn2 hL ep
      refine ⟨_, rfl, _, rfl, _, rfl, _, rfl, rfl, rfl, vw, vx, vy, nr, rfl, ?_⟩
      refine ⟨_, rfl, _, rfl, _, rfl, _, rfl, vw, vx, vy, nr, rfl, fun H1 sm1 => ?_⟩
      refine ⟨apartB vw vx vy nr, by rw [cross1]; rfl, _, rfl, ?_⟩
      refine ⟨_, rfl, _, rfl, _, rfl, rfl, rfl, n, st, sp, rfl, ha1, hn2, fun H2 p2 sm2 np2 ep2 => ?_⟩
      refine ⟨_, rfl, p2, p, _, rfl, ep2, .inl (.inl (sm2 _ _ (sm1 _ _ ep))), hL, _, rfl, ?_⟩
      refine ⟨_, rfl, _, rfl, _, rfl, n, st, sp, rfl, ha1, hn2, fun H3 p3 sm3 np3 ep3 => ?_⟩
      exact ⟨_, rfl, p3, p, _, rfl, ep3, .inl (.inl (sm3 _ _ (sm2 _ _ (sm1 _ _ ep)))), hL, q _⟩
    obtain ⟨tR, hR, qR⟩ : ∃ t, PSs (cxOf CX0 P w K mg base NL "law" (defScope sLaw) f cdv A outer s H E).nox ((defBody sLaw).drop 2) t ∧ ∀ n : Int, 0 ≤ n → n ≤ 40 → t { nx := fun _ H' => Q .non H', rt := Q } [some (.ref l), some (.int n), none, none, none, none, none, none, none, none, none, none, none] H := by
      refine ⟨_, (pss_cons (ps_set (i := 2) scLaw.nd rfl (.inl rfl) (pe_op op_modN (pe_callTy call_int1 (by rfl) T.mInt (by decide +kernel) (pa_cons (pe_call GL hr1 (by rfl) T.cell.g T.cell.F.kp T.cell.b .nil pass0 (pa_cons (pv 0) (pa_cons pe_int pa_nil))) pa_nil)) (pe_callB (call_max2 rfl) (by rfl) T.mMax (by decide +kernel) (pa_cons (pv 1) (pa_cons pe_int pa_nil)))))
        (pss_cons (ps_set (i := 3) scLaw.nd rfl (.inl rfl) (pe_op op_modN (pe_callTy call_int1 (by rfl) T.mInt (by decide +kernel) (pa_cons (pe_call GL hr1 (by rfl) T.cell.g T.cell.F.kp T.cell.b .nil pass0 (pa_cons (pv 0) (pa_cons pe_int pa_nil))) pa_nil)) (pe_callB (call_max2 rfl) (by rfl) T.mMax (by decide +kernel) (pa_cons (pv 1) (pa_cons pe_int pa_nil)))))
        (pss_cons (ps_set (i := 4) scLaw.nd rfl (.inl rfl) (pe_op op_modN (pe_callTy call_int1 (by rfl) T.mInt (by decide +kernel) (pa_cons (pe_call GL hr1 (by rfl) T.cell.g T.cell.F.kp T.cell.b .nil pass0 (pa_cons (pv 0) (pa_cons pe_int pa_nil))) pa_nil)) (pe_callB (call_max2 rfl) (by rfl) T.mMax (by decide +kernel) (pa_cons (pv 1) (pa_cons pe_int pa_nil)))))
        (pss_cons (ps_for PassesOwn.never rfl (pi_range1 (by rfl) T.mRng (pa_cons pe_int pa_nil)) (pg_name (i := 5) scLaw.nd rfl (.inl rfl))
        (pss_cons (ps_set (i := 6) scLaw.nd rfl (.inl rfl) (pe_call GG hr1 (by rfl) T.gaps.g T.gaps.F.kp T.gaps.b .nil pass0 (pa_cons (pv 5) pa_nil)))
        (pss_one (ps_if (PW.pt (pw_or (pt_not (pt_val (pe_call GH hr1 (by rfl) T.whole.g T.whole.F.kp T.whole.b .nil pass0 (pa_cons (pv 6) pa_nil)))) (pw_or1 (pt_cmpR op_ne (pv 6) (pe_callB (call_max2 rfl) (by rfl) T.mMax (by decide +kernel) (pa_cons (pv 5) (pa_cons pe_int pa_nil))) (nomark _))))) (pss_one (ps_ret pe_bl)) pss_nil))))
        (pss_cons (ps_if (pt_not (pt_val (pe_call GM hr (by rfl) T.rim.g T.rim.F.kp T.rim.b .nil pass0 (pa_cons (pv 1) (pa_cons (pv 2) (pa_cons (pv 3) pa_nil)))))) (pss_one (ps_ret pe_bl)) pss_nil)
        (pss_cons (ps_set (i := 7) scLaw.nd rfl (.inl rfl) (pe_op op_mod (pe_callTy call_int1 (by rfl) T.mInt (by decide +kernel) (pa_cons (pe_call GL hr1 (by rfl) T.cell.g T.cell.F.kp T.cell.b .nil pass0 (pa_cons (pv 0) (pa_cons pe_int pa_nil))) pa_nil)) pe_int))
        (pss_cons (ps_set (i := 8) scLaw.nd rfl (.inl rfl) (pe_op op_mod (pe_callTy call_int1 (by rfl) T.mInt (by decide +kernel) (pa_cons (pe_call GL hr1 (by rfl) T.cell.g T.cell.F.kp T.cell.b .nil pass0 (pa_cons (pv 0) (pa_cons pe_int pa_nil))) pa_nil)) pe_int))
        (pss_cons (ps_set (i := 9) scLaw.nd rfl (.inl rfl) (pe_op op_mod (pe_callTy call_int1 (by rfl) T.mInt (by decide +kernel) (pa_cons (pe_call GL hr1 (by rfl) T.cell.g T.cell.F.kp T.cell.b .nil pass0 (pa_cons (pv 0) (pa_cons pe_int pa_nil))) pa_nil)) pe_int))
        (pss_cons (ps_for PassesOwn.never rfl (pi_range1 (by rfl) T.mRng (pa_cons pe_int pa_nil)) (pg_name (i := 10) scLaw.nd rfl (.inl rfl))
        (pss_one (ps_if (PW.pt (pw_or (pt_not (pt_val (pe_call GF hr2 (by rfl) T.four.g T.four.F.kp T.four.b .nil pass0 (pa_cons (pv 7) (pa_cons (pv 8) (pa_cons (pv 9) (pa_cons (pv 10) pa_nil))))))) (pw_or (pt_not (pt_val (pe_call GF hr2 (by rfl) T.four.g T.four.F.kp T.four.b .nil pass0 (pa_cons (pv 7) (pa_cons (pv 8) (pa_cons (pv 7) (pa_cons (pv 10) pa_nil))))))) (pw_or1 (pt_not (pt_val (pe_call GF hr2 (by rfl) T.four.g T.four.F.kp T.four.b .nil pass0 (pa_cons (pv 7) (pa_cons (pv 7) (pa_cons (pv 9) (pa_cons (pv 10) pa_nil))))))))))) (pss_one (ps_ret pe_bl)) pss_nil)))
        (pss_cons (ps_set (i := 6) scLaw.nd rfl (.inl rfl) (pe_callK0 GG hr1 (by rfl) T.gaps.g T.gaps.F.kp kG pass0 (pk_cons (pv 1) pk_nil)))
        (pss_cons (ps_if (PW.pt (pw_or (pt_not (pt_val (pe_call GH hr1 (by rfl) T.whole.g T.whole.F.kp T.whole.b .nil pass0 (pa_cons (pv 6) pa_nil)))) (pw_or1 (pt_cmpR op_ne (pv 6) (pe_callB (call_max2 rfl) (by rfl) T.mMax (by decide +kernel) (pa_cons (pv 1) (pa_cons pe_int pa_nil))) (nomark _))))) (pss_one (ps_ret pe_bl)) pss_nil)
        (pss_cons (ps_set (i := 11) scLaw.nd rfl (.inl rfl) (pe_call GW hr1 (by rfl) T.walk.g T.walk.F.kp T.walk.b .nil pass0 (pa_cons (pv 1) (pa_cons (pv 2) (pa_cons (pv 4) pa_nil)))))
        (pss_cons (ps_if (pt_cmpR op_gt (pv 1) pe_int (nomark _)) (pss_cons (ps_set (i := 12) scLaw.nd rfl (.inl rfl) (pe_cmpR op_ne (pe_cmpR op_in_seq (pv 3) (pv 11) (by rfl)) (pe_cmpR op_in_seq (pe_op op_modN (pe_callTy call_int1 (by rfl) T.mInt (by decide +kernel) (pa_cons (pv 8) pa_nil)) (pv 1)) (pv 11) (by rfl)) (nomark _)))
        (pss_one (ps_if (pt_not (pt_val (pe_call GT hr1 (by rfl) T.truth.g T.truth.F.kp T.truth.b .nil pass0 (pa_cons (pe_callK0 GP hr2 (by rfl) T.parts.g T.parts.F.kp kP pass0 (pk_cons (pv 1) (pk_cons (pv 3) (pk_cons (pe_op op_modN (pe_callTy call_int1 (by rfl) T.mInt (by decide +kernel) (pa_cons (pv 8) pa_nil)) (pv 1)) (pk_cons (pv 2) (pk_cons (pv 4) pk_nil)))))) (pa_cons (pv 12) pa_nil))))) (pss_one (ps_ret pe_bl)) pss_nil))) pss_nil)
        hR2))))))))))))), ?_⟩
      intro n n0 n40
      refine ⟨_, rfl, l, ns, 2, rfl, hs, by decide, by omega, fun c2 => .inl ⟨_, rfl, _, rfl, n, 1, rfl, _, _, rfl, rfl, by split <;> omega, ?_⟩⟩
      refine ⟨_, rfl, l, ns, 3, rfl, hs, by decide, by omega, fun c3 => .inl ⟨_, rfl, _, rfl, n, 1, rfl, _, _, rfl, rfl, by split <;> omega, ?_⟩⟩
      refine ⟨_, rfl, l, ns, 4, rfl, hs, by decide, by omega, fun c4 => .inl ⟨_, rfl, _, rfl, n, 1, rfl, _, _, rfl, rfl, by split <;> omega, ?_⟩⟩
      refine ⟨41, rfl, by decide, by decide, for_range (lo := 0) (n := 41) (fun i σ H' => (∃ y5 y6, σ = [some (.ref l), some (.int n), some (.int (c2.fmod (if 1 > n then 1 else n))), some (.int (c3.fmod (if 1 > n then 1 else n))), some (.int (c4.fmod (if 1 > n then 1 else n))), y5, y6, none, none, none, none, none, none]) ∧ H' = H) ⟨⟨_, _, rfl⟩, rfl⟩ (fun i σ H' hi p => ?_) (fun σ H' p => ?_)⟩
      · obtain ⟨⟨y5, y6, rfl⟩, rfl⟩ := p
        refine ⟨_, rfl, _, rfl, ?_⟩
        refine ⟨_, rfl, _, rfl, _, rfl, ?_⟩
        exact ⟨_, rfl, _, rfl, _, _, rfl, rfl, _, rfl, iteNS rfl ⟨⟨_, _, rfl⟩, rfl⟩⟩
      obtain ⟨⟨y5, y6, rfl⟩, rfl⟩ := p
      have hs1 : rimOk n (c2.fmod (if 1 > n then 1 else n)) := rim_mod n0
      have hs2 : rimOk n (c3.fmod (if 1 > n then 1 else n)) := rim_mod n0
      have hs3 : rimOk n (c4.fmod (if 1 > n then 1 else n)) := rim_mod n0
      revert hs1 hs2 hs3
      generalize c2.fmod (if 1 > n then 1 else n) = st
      generalize c3.fmod (if 1 > n then 1 else n) = nr
      generalize c4.fmod (if 1 > n then 1 else n) = sp
      intro hs1 hs2 hs3
      have hw1 : (n = 0 ∧ st = sp) ∨ (0 < n ∧ 0 ≤ st ∧ st < n ∧ 0 ≤ sp ∧ sp < n) := by
        rcases hs1 with h | h <;> rcases hs3 with h' | h' <;> omega
      have ha1 : st = sp ∨ 0 < n := by omega
      have hL : (arcL n st sp).length ≤ 1000 := by
        rw [arcL_len]
        by_cases h : st = sp
        · rw [h, arcN_same]
          omega
        · have := fmod_in (sp - st) (ha1.resolve_left h)
          unfold arcN
          omega
      refine ⟨_, rfl, _, rfl, _, rfl, n, st, nr, rfl, hs1, hs2, by omega, fun H1 sm1 => ⟨_, rfl, ?_⟩⟩
      have hsA : SqL K H1 l (ns.map V.int) := sm1.seq hs
      refine ⟨_, rfl, l, ns, 5, rfl, hsA, by decide, by omega, fun c5 => .inl ⟨_, rfl, _, _, rfl, rfl, by show (0 : Int) < 40; decide, ?_⟩⟩
      refine ⟨_, rfl, l, ns, 6, rfl, hsA, by decide, by omega, fun c6 => .inl ⟨_, rfl, _, _, rfl, rfl, by show (0 : Int) < 40; decide, ?_⟩⟩
      refine ⟨_, rfl, l, ns, 7, rfl, hsA, by decide, by omega, fun c7 => .inl ⟨_, rfl, _, _, rfl, rfl, by show (0 : Int) < 40; decide, ?_⟩⟩
      refine ⟨40, rfl, by decide, by decide, for_range (lo := 0) (n := 40) (fun i σ H' => (∃ y10, σ = [some (.ref l), some (.int n), some (.int st), some (.int nr), some (.int sp), y5, y6, some (.int (c5 % 40)), some (.int (c6 % 40)), some (.int (c7 % 40)), y10, none, none]) ∧ Same H1 H') ⟨⟨_, rfl⟩, Same.refl H1⟩ (fun i σ H' hi p => ?_) (fun σ H' p => ?_)⟩
      · obtain ⟨⟨y10, rfl⟩, sm⟩ := p
        refine ⟨_, rfl, _, rfl, _, rfl, _, rfl, _, _, _, _, rfl, fun H2 sm2 => ⟨_, rfl, ?_⟩⟩
        refine ⟨_, rfl, _, rfl, _, rfl, _, rfl, _, _, _, _, rfl, fun H3 sm3 => ⟨_, rfl, ?_⟩⟩
        refine ⟨_, rfl, _, rfl, _, rfl, _, rfl, _, _, _, _, rfl, fun H4 sm4 => ⟨_, rfl, ?_⟩⟩
        exact ⟨⟨_, rfl⟩, ((sm.trans sm2).trans sm3).trans sm4⟩
      obtain ⟨⟨y10, rfl⟩, sm⟩ := p
      -- gaps by name
      refine ⟨_, rfl, rfl, rfl, n, rfl, ?_⟩
      refine ⟨_, rfl, _, rfl, _, rfl, ?_⟩
      refine ⟨_, rfl, _, rfl, _, _, rfl, rfl, _, rfl, iteNS rfl ?_⟩
      -- the walk
      refine ⟨_, rfl, _, rfl, _, rfl, n, st, sp, rfl, hw1, by omega, fun H5 p5 sm5 np5 ep5 => ?_⟩
      have lA : SqL K H5 p5 ((arcL n st sp).map V.int) := .inl (.inl ep5)
      have hn2 : n ≤ 1000 := by omega
      have done := fun (y12 : Option V) (H6 : Hp) (sm6 : Same H5 H6) => qR2 n st nr sp (c5 % 40) (c6 % 40) (c7 % 40) y5 (some (.int (if 1 > n then 1 else n))) y10 y12 p5 H6 ha1 hn2 hL (sm6 _ _ ep5)
      refine ⟨_, rfl, _, _, rfl, rfl, _, rfl, ite2 (fun e => ?_) (fun e => ?_)⟩
      · have n1 : 0 < n := of_decide_eq_true e
        refine ⟨_, rfl, _, rfl, p5, _, rfl, .inl lA, rfl, flat_ints _, _, rfl, .inl ⟨_, rfl, _, rfl, _, _, rfl, rfl, by omega, ?_⟩⟩
        refine ⟨_, rfl, p5, _, rfl, .inl lA, rfl, flat_ints _, rfl, ?_⟩
        have e2 : (!decide (V.bl (inV (.int nr) ((arcL n st sp).map V.int)) = V.bl (inV (.int ((c6 % 40).fmod n)) ((arcL n st sp).map V.int)))) = partB n nr ((c6 % 40).fmod n) st sp := by
          rw [ne_bl, inV_ints, inV_ints]
          rfl
        show gName 12 (.bl (!decide (V.bl (inV (.int nr) ((arcL n st sp).map V.int)) = V.bl (inV (.int ((c6 % 40).fmod n)) ((arcL n st sp).map V.int))))) _ _ _
        rw [e2]
        refine ⟨_, rfl, _, rfl, _, rfl, .inl ⟨_, rfl, _, rfl, _, _, rfl, rfl, by omega, ?_⟩⟩
        refine ⟨_, rfl, _, rfl, rfl, rfl, n, nr, (c6 % 40).fmod n, st, sp, rfl, ha1, hn2, fun H6 sm6 => ?_⟩
        exact ⟨_, rfl, partB n nr ((c6 % 40).fmod n) st sp, rfl, _, rfl, done _ H6 sm6⟩
      · exact done _ H5 (Same.refl H5)
    refine ⟨_, pss_cons (ps_set (i := 1) scLaw.nd rfl (.inl rfl) (pe_op op_mod (pe_callTy call_int1 (by rfl) T.mInt (by decide +kernel) (pa_cons (pe_call GL hr1 (by rfl) T.cell.g T.cell.F.kp T.cell.b .nil pass0 (pa_cons (pv 0) (pa_cons pe_int pa_nil))) pa_nil)) pe_int)) (pss_cons (ps_if (pt_cmpR op_eq (pe_op op_mod (pe_callTy call_int1 (by rfl) T.mInt (by decide +kernel) (pa_cons (pe_call GL hr1 (by rfl) T.cell.g T.cell.F.kp T.cell.b .nil pass0 (pa_cons (pv 0) (pa_cons pe_int pa_nil))) pa_nil)) pe_int) pe_int (nomark _)) (pss_one (ps_set (i := 1) scLaw.nd rfl (.inl rfl) (pe_op op_mod (pe_callTy call_int1 (by rfl) T.mInt (by decide +kernel) (pa_cons (pe_call GL hr1 (by rfl) T.cell.g T.cell.F.kp T.cell.b .nil pass0 (pa_cons (pv 0) (pa_cons pe_int pa_nil))) pa_nil)) pe_int))) pss_nil) hR), ?_⟩
    refine ⟨_, rfl, l, ns, 0, rfl, hs, by decide, by omega, fun c0 => .inl ⟨_, rfl, _, _, rfl, rfl, by show (0 : Int) < 13; decide, ?_⟩⟩
    refine ⟨_, rfl, l, ns, 1, rfl, hs, by decide, by omega, fun c1 => .inl ⟨_, rfl, _, _, rfl, rfl, by show (0 : Int) < 8; decide, ?_⟩⟩
    refine ⟨rfl, _, rfl, ite2 (fun e => ?_) (fun e => ?_)⟩
    · refine ⟨_, rfl, l, ns, 0, rfl, hs, by decide, by omega, fun c9 => .inl ⟨_, rfl, _, _, rfl, rfl, by show (0 : Int) < 41; decide, ?_⟩⟩
      exact qR (c9 % 41) (Int.emod_nonneg _ (by decide)) (by have := Int.emod_lt_of_pos c9 (show (0 : Int) < 41 by decide); omega)
    · exact qR (c0 % 13) (Int.emod_nonneg _ (by decide)) (by have := Int.emod_lt_of_pos c0 (show (0 : Int) < 13 by decide); omega)
end
/-! ### what the top has left, fact by fact -/
theorem df_mk {K : PySem.W.Frag} {mg : Str → Option Value} {x : Str} {st : Stmt} {ps : List Str} {h : Heap} {f : Addr} {oc : Value} {od an : Option Addr} {osl : Array (Option Value)} {kV doc pm cdv ct : Value} (X : K.In h) (G : h.Ns mainGlobals mg)
    (a : PySem.W.nsIn K mainGlobals x = some (some (.ref f))) (l : K.lookup f = some ⟨oc, od, .func (PySem.W.fnOf x x (defArgs st) (defBody st) (defScope st) .none kV doc pm an cdv ct), osl⟩) (c : PySem.W.codeIn K cdv x = true) (k : PySem.W.keepIn K (.ref f) = true)
    (b : ∀ (kV doc pm : Value) (an : Option Addr) (cdv ct : Value) (us : List Value), us.length = ps.length → bindArgs (PySem.W.fnOf x x (defArgs st) (defBody st) (defScope st) .none kV doc pm an cdv ct) ⟨us, []⟩ = pure (ps.zip us)) :
    Df K mg x st ps f (PySem.W.fnOf x x (defArgs st) (defBody st) (defScope st) .none kV doc pm an cdv ct) :=
  ⟨fun_mk l c k, PySem.W.mg_of X G a, (fun_mk l c k).binds b⟩
theorem all_mk {lw : PySem.W.OpenLaw} {w : World} {K : PySem.W.Frag} {h : Heap} {mg : Str → Option Value} {fa f1 f2 f3 f4 f6 f7 f8 f9 f10 f11 f12 f13 f14 : Addr} (X : K.In h) (G : h.Ns mainGlobals mg) (hfa : mg "law" = some (.ref fa))
    {od1 an1 od2 an2 od3 an3 od4 an4 od6 an6 od7 an7 od8 an8 od9 an9 od10 an10 od11 an11 od12 an12 od13 an13 od14 an14 : Option Addr} {sl1 sl2 sl3 sl4 sl6 sl7 sl8 sl9 sl10 sl11 sl12 sl13 sl14 : Array (Option Value)} {oc1 kV1 dc1 pm1 cd1 ct1 oc2 kV2 dc2 pm2 cd2 ct2 oc3 kV3 dc3 pm3 cd3 ct3 oc4 kV4 dc4 pm4 cd4 ct4 oc6 kV6 dc6 pm6 cd6 ct6 oc7 kV7 dc7 pm7 cd7 ct7 oc8 kV8 dc8 pm8 cd8 ct8 oc9 kV9 dc9 pm9 cd9 ct9 oc10 kV10 dc10 pm10 cd10 ct10 oc11 kV11 dc11 pm11 cd11 ct11 oc12 kV12 dc12 pm12 cd12 ct12 oc13 kV13 dc13 pm13 cd13 ct13 oc14 kV14 dc14 pm14 cd14 ct14 : Value}
    (a1 : PySem.W.nsIn K mainGlobals "gaps" = some (some (.ref f1))) (l1 : K.lookup f1 = some ⟨oc1, od1, .func (PySem.W.fnOf "gaps" "gaps" (defArgs sGaps) (defBody sGaps) (defScope sGaps) .none kV1 dc1 pm1 an1 cd1 ct1), sl1⟩) (c1 : PySem.W.codeIn K cd1 "gaps" = true) (k1 : PySem.W.keepIn K (.ref f1) = true)
    (a2 : PySem.W.nsIn K mainGlobals "arc" = some (some (.ref f2))) (l2 : K.lookup f2 = some ⟨oc2, od2, .func (PySem.W.fnOf "arc" "arc" (defArgs sArc) (defBody sArc) (defScope sArc) .none kV2 dc2 pm2 an2 cd2 ct2), sl2⟩) (c2 : PySem.W.codeIn K cd2 "arc" = true) (k2 : PySem.W.keepIn K (.ref f2) = true)
    (a3 : PySem.W.nsIn K mainGlobals "parts" = some (some (.ref f3))) (l3 : K.lookup f3 = some ⟨oc3, od3, .func (PySem.W.fnOf "parts" "parts" (defArgs sParts) (defBody sParts) (defScope sParts) .none kV3 dc3 pm3 an3 cd3 ct3), sl3⟩) (c3 : PySem.W.codeIn K cd3 "parts" = true) (k3 : PySem.W.keepIn K (.ref f3) = true)
    (a4 : PySem.W.nsIn K mainGlobals "crosses" = some (some (.ref f4))) (l4 : K.lookup f4 = some ⟨oc4, od4, .func (PySem.W.fnOf "crosses" "crosses" (defArgs sCrosses) (defBody sCrosses) (defScope sCrosses) .none kV4 dc4 pm4 an4 cd4 ct4), sl4⟩) (c4 : PySem.W.codeIn K cd4 "crosses" = true) (k4 : PySem.W.keepIn K (.ref f4) = true)
    (a6 : PySem.W.nsIn K mainGlobals "_law_whole" = some (some (.ref f6))) (l6 : K.lookup f6 = some ⟨oc6, od6, .func (PySem.W.fnOf "_law_whole" "_law_whole" (defArgs sWhole) (defBody sWhole) (defScope sWhole) .none kV6 dc6 pm6 an6 cd6 ct6), sl6⟩) (c6 : PySem.W.codeIn K cd6 "_law_whole" = true) (k6 : PySem.W.keepIn K (.ref f6) = true)
    (a7 : PySem.W.nsIn K mainGlobals "_law_cell" = some (some (.ref f7))) (l7 : K.lookup f7 = some ⟨oc7, od7, .func (PySem.W.fnOf "_law_cell" "_law_cell" (defArgs sCell) (defBody sCell) (defScope sCell) .none kV7 dc7 pm7 an7 cd7 ct7), sl7⟩) (c7 : PySem.W.codeIn K cd7 "_law_cell" = true) (k7 : PySem.W.keepIn K (.ref f7) = true)
    (a8 : PySem.W.nsIn K mainGlobals "_law_truth" = some (some (.ref f8))) (l8 : K.lookup f8 = some ⟨oc8, od8, .func (PySem.W.fnOf "_law_truth" "_law_truth" (defArgs sTruth) (defBody sTruth) (defScope sTruth) .none kV8 dc8 pm8 an8 cd8 ct8), sl8⟩) (c8 : PySem.W.codeIn K cd8 "_law_truth" = true) (k8 : PySem.W.keepIn K (.ref f8) = true)
    (a9 : PySem.W.nsIn K mainGlobals "_law_row" = some (some (.ref f9))) (l9 : K.lookup f9 = some ⟨oc9, od9, .func (PySem.W.fnOf "_law_row" "_law_row" (defArgs sRow) (defBody sRow) (defScope sRow) .none kV9 dc9 pm9 an9 cd9 ct9), sl9⟩) (c9 : PySem.W.codeIn K cd9 "_law_row" = true) (k9 : PySem.W.keepIn K (.ref f9) = true)
    (a10 : PySem.W.nsIn K mainGlobals "_law_walk" = some (some (.ref f10))) (l10 : K.lookup f10 = some ⟨oc10, od10, .func (PySem.W.fnOf "_law_walk" "_law_walk" (defArgs sWalk) (defBody sWalk) (defScope sWalk) .none kV10 dc10 pm10 an10 cd10 ct10), sl10⟩) (c10 : PySem.W.codeIn K cd10 "_law_walk" = true) (k10 : PySem.W.keepIn K (.ref f10) = true)
    (a11 : PySem.W.nsIn K mainGlobals "_law_apart" = some (some (.ref f11))) (l11 : K.lookup f11 = some ⟨oc11, od11, .func (PySem.W.fnOf "_law_apart" "_law_apart" (defArgs sApart) (defBody sApart) (defScope sApart) .none kV11 dc11 pm11 an11 cd11 ct11), sl11⟩) (c11 : PySem.W.codeIn K cd11 "_law_apart" = true) (k11 : PySem.W.keepIn K (.ref f11) = true)
    (a12 : PySem.W.nsIn K mainGlobals "_law_rim" = some (some (.ref f12))) (l12 : K.lookup f12 = some ⟨oc12, od12, .func (PySem.W.fnOf "_law_rim" "_law_rim" (defArgs sRim) (defBody sRim) (defScope sRim) .none kV12 dc12 pm12 an12 cd12 ct12), sl12⟩) (c12 : PySem.W.codeIn K cd12 "_law_rim" = true) (k12 : PySem.W.keepIn K (.ref f12) = true)
    (a13 : PySem.W.nsIn K mainGlobals "_law_four" = some (some (.ref f13))) (l13 : K.lookup f13 = some ⟨oc13, od13, .func (PySem.W.fnOf "_law_four" "_law_four" (defArgs sFour) (defBody sFour) (defScope sFour) .none kV13 dc13 pm13 an13 cd13 ct13), sl13⟩) (c13 : PySem.W.codeIn K cd13 "_law_four" = true) (k13 : PySem.W.keepIn K (.ref f13) = true)
    (a14 : PySem.W.nsIn K mainGlobals "law" = some (some (.ref f14))) (l14 : K.lookup f14 = some ⟨oc14, od14, .func (PySem.W.fnOf "law" "law" (defArgs sLaw) (defBody sLaw) (defScope sLaw) .none kV14 dc14 pm14 an14 cd14 ct14), sl14⟩) (c14 : PySem.W.codeIn K cd14 "law" = true) (k14 : PySem.W.keepIn K (.ref f14) = true)
    (z0 : PySem.W.nsIn K mainGlobals "max" = some none) (z1 : PySem.W.nsIn K mainGlobals "min" = some none) (z2 : PySem.W.nsIn K mainGlobals "tuple" = some none) (z3 : PySem.W.nsIn K mainGlobals "range" = some none) (z4 : PySem.W.nsIn K mainGlobals "isinstance" = some none) (z5 : PySem.W.nsIn K mainGlobals "int" = some none) (z6 : PySem.W.nsIn K mainGlobals "bool" = some none) (z7 : PySem.W.nsIn K mainGlobals "len" = some none) :
    ∃ fd : FuncData, (∀ (s : Shared) (v : Value), BindsTo s fd ⟨[v], []⟩ [("_law_script", v)]) ∧ ∀ base : Heap, K.In base → base.Ns mainGlobals mg → FnOk lw.prog w K mg base CX0 4 fa fd ["_law_script"] (spLaw K) := by
  have e := hfa.symm.trans (PySem.W.mg_of X G a14)
  cases e
  have D1 := df_mk (ps := ["pins"]) (st := sGaps) X G a1 l1 c1 k1 fun _ _ _ _ _ _ us hl => match us, hl with | [_], _ => rfl
  have D2 := df_mk (ps := ["pins", "first", "last"]) (st := sArc) X G a2 l2 c2 k2 fun _ _ _ _ _ _ us hl => match us, hl with | [_, _, _], _ => rfl
  have D3 := df_mk (ps := ["pins", "one", "other", "first", "last"]) (st := sParts) X G a3 l3 c3 k3 fun _ _ _ _ _ _ us hl => match us, hl with | [_, _, _, _, _], _ => rfl
  have D4 := df_mk (ps := ["a", "b", "c", "d"]) (st := sCrosses) X G a4 l4 c4 k4 fun _ _ _ _ _ _ us hl => match us, hl with | [_, _, _, _], _ => rfl
  have D6 := df_mk (ps := ["_law_value"]) (st := sWhole) X G a6 l6 c6 k6 fun _ _ _ _ _ _ us hl => match us, hl with | [_], _ => rfl
  have D7 := df_mk (ps := ["_law_script", "_law_k"]) (st := sCell) X G a7 l7 c7 k7 fun _ _ _ _ _ _ us hl => match us, hl with | [_, _], _ => rfl
  have D8 := df_mk (ps := ["_law_value", "_law_due"]) (st := sTruth) X G a8 l8 c8 k8 fun _ _ _ _ _ _ us hl => match us, hl with | [_, _], _ => rfl
  have D9 := df_mk (ps := ["_law_value", "_law_due"]) (st := sRow) X G a9 l9 c9 k9 fun _ _ _ _ _ _ us hl => match us, hl with | [_, _], _ => rfl
  have D10 := df_mk (ps := ["_law_rim_here", "_law_start", "_law_stop"]) (st := sWalk) X G a10 l10 c10 k10 fun _ _ _ _ _ _ us hl => match us, hl with | [_, _, _], _ => rfl
  have D11 := df_mk (ps := ["_law_w", "_law_x", "_law_y", "_law_z"]) (st := sApart) X G a11 l11 c11 k11 fun _ _ _ _ _ _ us hl => match us, hl with | [_, _, _, _], _ => rfl
  have D12 := df_mk (ps := ["_law_rim_here", "_law_start", "_law_near"]) (st := sRim) X G a12 l12 c12 k12 fun _ _ _ _ _ _ us hl => match us, hl with | [_, _, _], _ => rfl
  have D13 := df_mk (ps := ["_law_w", "_law_x", "_law_y", "_law_z"]) (st := sFour) X G a13 l13 c13 k13 fun _ _ _ _ _ _ us hl => match us, hl with | [_, _, _, _], _ => rfl
  have T : Top K mg f1 f2 f3 f4 f6 f7 f8 f9 f10 f11 f12 f13 _ _ _ _ _ _ _ _ _ _ _ _ := ⟨D1, D2, D3, D4, D6, D7, D8, D9, D10, D11, D12, D13, PySem.W.mg_none_of X G z0, PySem.W.mg_none_of X G z1, PySem.W.mg_none_of X G z2, PySem.W.mg_none_of X G z3, PySem.W.mg_none_of X G z4, PySem.W.mg_none_of X G z5, PySem.W.mg_none_of X G z6, PySem.W.mg_none_of X G z7⟩
  exact ⟨PySem.W.fnOf "law" "law" (defArgs sLaw) (defBody sLaw) (defScope sLaw) .none kV14 dc14 pm14 an14 cd14 ct14, fun s v => .of_eq rfl, fun base _ _ => ok_law (fun_mk l14 c14 k14) T⟩
end Rims
open PySem PySem.W PyProof.Rows
set_option maxRecDepth 100000 in
set_option maxHeartbeats 0 in
theorem PySem.Challenge.cw_rimcords_k00_rims_holds : PySem.Challenge.rw_rimcords_k00_rims.Holds := by
  w_on; o_law; k_head; (case hw => w_witness2)
  k_fill
  refine L2.walk_of (l := PySem.Challenge.rw_rimcords_k00_rims) (n := 63) (k := 4) (x := "_law_script") (CX := fun _ => L2.CX0) (sp := fun w => Rims.spLaw _) rfl (by decide) rfl ⟨rfl, by decide, by decide⟩ (fun w h Y => PySem.W.kIn_of Y) ?F (fun _ _ a ns hl _ hS => ⟨a, ns, rfl, hS, hl, fun _ => rfl⟩) (fun _ _ _ _ _ h => h)
  case F =>
    intro w mg fa h KX G hmg
    refine' Rims.all_mk KX G hmg ?a1 ?l1 ?c1 ?k1 ?a2 ?l2 ?c2 ?k2 ?a3 ?l3 ?c3 ?k3 ?a4 ?l4 ?c4 ?k4 ?a6 ?l6 ?c6 ?k6 ?a7 ?l7 ?c7 ?k7 ?a8 ?l8 ?c8 ?k8 ?a9 ?l9 ?c9 ?k9 ?a10 ?l10 ?c10 ?k10 ?a11 ?l11 ?c11 ?k11 ?a12 ?l12 ?c12 ?k12 ?a13 ?l13 ?c13 ?k13 ?a14 ?l14 ?c14 ?k14 ?z0 ?z1 ?z2 ?z3 ?z4 ?z5 ?z6 ?z7
    (case a1 => k_is); (case l1 => k_is); (case c1 => k_is); (case k1 => k_is); (case a2 => k_is); (case l2 => k_is); (case c2 => k_is); (case k2 => k_is); (case a3 => k_is); (case l3 => k_is); (case c3 => k_is); (case k3 => k_is); (case a4 => k_is); (case l4 => k_is); (case c4 => k_is); (case k4 => k_is); (case a6 => k_is); (case l6 => k_is); (case c6 => k_is); (case k6 => k_is); (case a7 => k_is); (case l7 => k_is); (case c7 => k_is); (case k7 => k_is); (case a8 => k_is); (case l8 => k_is); (case c8 => k_is); (case k8 => k_is); (case a9 => k_is); (case l9 => k_is); (case c9 => k_is); (case k9 => k_is); (case a10 => k_is); (case l10 => k_is); (case c10 => k_is); (case k10 => k_is); (case a11 => k_is); (case l11 => k_is); (case c11 => k_is); (case k11 => k_is); (case a12 => k_is); (case l12 => k_is); (case c12 => k_is); (case k12 => k_is); (case a13 => k_is); (case l13 => k_is); (case c13 => k_is); (case k13 => k_is); (case a14 => k_is); (case l14 => k_is); (case c14 => k_is); (case k14 => k_is); (case z0 => k_is); (case z1 => k_is); (case z2 => k_is); (case z3 => k_is); (case z4 => k_is); (case z5 => k_is); (case z6 => k_is); (case z7 => k_is)
