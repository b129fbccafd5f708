/-
  QuoteClean returns true: what is quoted with escapes, or as C, has no hard byte. Conditions: the library's tables lie.
-/
import Derived.Test.YtlilnljneakngaaDoorQCleanM
import Derived.Test.YtlilnljneakngaaDoorQQuote
set_option linter.unusedVariables false
namespace Go.Proofs.YtlilnljneakngaaDoor
open Go.RowKit

/-- How the numbers lie. -/
theorem OwnI.form {W0 : World} {v : Value} {ks : List Nat} {w : World} (h : OwnI W0 v ks w) :
    ∃ (a : Option Addr) (cap : Nat), v = .slice a ks.length cap ∧ ∀ i (hi : i < ks.length), ∃ g, a = some ⟨g, 0, Option.none⟩ ∧ w.cell? ⟨g, i, Option.none⟩ = some (.int .i64 ((ks[i]'hi : Nat) : Int)) := by
  obtain ⟨h1, _, _⟩ := h
  rcases h1.2 with ⟨rfl, hz⟩ | ⟨g, cap, cur, rfl, _⟩
  · exact ⟨Option.none, 0, by rw [hz], fun i hi => by omega⟩
  · refine ⟨some ⟨g, 0, Option.none⟩, cap, rfl, fun i hi => ⟨g, rfl, ?_⟩⟩
    have := h1.cells (g := g) rfl i (.int .i64 ((ks[i]'hi : Nat) : Int)) (by simp [hi])
    have e : (⟨g, 0, Option.none⟩ : Addr).add i = ⟨g, i, Option.none⟩ := by by_cases h : i = 0 <;> simp [Addr.add, h]
    rw [e] at this
    exact this
theorem OwnI.below {W0 : World} {v : Value} {ks : List Nat} {w : World} (h : OwnI W0 v ks w) : Below W0.heap.size W0 w := h.2.1
def StyleRelC (lo hi : Int) (w : World) (v : Value) (w' : World) : Prop := ∃ i : Int, lo ≤ i ∧ i ≤ hi ∧ v = .int .i64 i ∧ Below w.heap.size w w'
def IdxRel (n : Nat) (v : Value) : Prop := ∃ i : Nat, i ≤ n ∧ v = .int .i64 (i : Int)

set_option maxHeartbeats 2000000 in
set_option maxRecDepth 100000 in
theorem clean_any (s : ByteArray) (w : World) (hT : Tab w) :
    Calls Tryd.prog 7 #[.string s] w fun e w' => e = .returned (.bool true) ∧ Below w.heap.size w w' := by
  by_cases hlong : 200 < s.size
  · go_enter Tryd.func7, Tryd.ntmps7
    go_wp2_with fail
    refine (awake_any w hT).mono ?_
    rintro e w2 ⟨rfl, hb2⟩
    go_wp2_with fail
    refine (awake_any w2 (hT.keep hb2)).mono ?_
    rintro e w3 ⟨rfl, hb3⟩
    go_wp2_with fail
    go_ret
    exact ⟨rfl, below_two hb2 hb3⟩
  · go_enter Tryd.func7, Tryd.ntmps7
    go_wp2_with fail
    refine (awake_any w hT).mono ?_
    rintro e w2 ⟨rfl, hb2⟩
    have HB := Lib.hid hb2
    clear hb2
    go_wp2_with fail
    go_loopw [3] (StyleRelC 3 6 w) (fun v _ => (6 - intOf v).toNat)
    case atStart => exact ⟨3, by decide, by decide, rfl, HB.out⟩
    case round =>
      obtain ⟨i, hi3, hi6, rfl, hbi⟩ := hrel
      have HBi := Lib.hid hbi
      clear hbi
      by_cases h5 : i ≤ 5
      · have HS := Lib.hid (clean_styles i hi3 h5 (L s))
        have cA := quote_any i s wr (hT.keep HBi.out) (by omega)
        have hq := quoteP_len i (L s)
        rw [L_len] at hq
        obtain ⟨q, hqq⟩ : ∃ q, quoteP i (L s) = q := ⟨_, rfl⟩
        rw [hqq] at HS cA hq
        have cK : ∀ w3, Calls Tryd.prog 15 #[.string (T q)] w3 fun e w' => ∃ v, e = .returned v ∧ OwnI w3 v (kindsP q) w' := fun w3 => kinds_any (T q) w3 (by rw [T_size]; omega)
        have hkl := kindsP_len q
        obtain ⟨ks, hks⟩ : ∃ ks, kindsP q = ks := ⟨_, rfl⟩
        rw [hks] at HS hkl cK
        clear hqq hks
        go_wp2_with fail
        refine cA.mono ?_
        rintro e w3 ⟨rfl, hb3⟩
        have HB3 := Lib.hid (below_two HBi.out hb3)
        clear hb3 cA
        go_wp2_with fail
        refine (cK w3).mono ?_
        rintro e w4 ⟨v, rfl, hown⟩
        obtain ⟨a, cap, rfl, hcell⟩ := hown.form
        have HB4 := Lib.hid (below_two HB3.out hown.below)
        have HC := Lib.hid hcell
        clear hown hcell cK
        go_wp2_with fail
        go_hide hQ
        go_loop [5] (IdxRel ks.length) (fun v => ks.length - (intOf v).toNat)
        case atStart => exact ⟨0, Nat.zero_le _, rfl⟩
        case round =>
          obtain ⟨j, hj, rfl⟩ := hrel
          by_cases hjk : j < ks.length
          · obtain ⟨g, rfl, hcj⟩ := HC.out j hjk
            have hne := HS.out (ks[j]'hjk) (List.getElem_mem _)
            obtain ⟨n, hn⟩ : ∃ n, ks[j]'hjk = n := ⟨_, rfl⟩
            rw [hn] at hcj hne
            have hx : ((n : Int) == 2) = false := beq_eq_false_iff_ne.2 (by omega)
            go_wp2_with fail
            refine ⟨⟨j + 1, by omega, by go_num⟩, ?_⟩
            simp [intOf]
            omega
          · obtain rfl : j = ks.length := by omega
            go_wp2_with fail
            subst hQ
            go_wp2_with fail
            go_roundw
            case rel => exact ⟨i + 1, by omega, by omega, by go_num, HB4.out⟩
            case measure => simp [intOf]; omega
      · go_wp2_with fail
        go_ret
        exact ⟨rfl, HBi.out⟩
end Go.Proofs.YtlilnljneakngaaDoor
