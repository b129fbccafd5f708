/-
  What quote.readEscape returns. Conditions: the text has at most 1000000 bytes.
-/
import Derived.Test.YtlilnljneakngaaDoorQQuote
import Derived.Test.YtlilnljneakngaaDoorQReadM
set_option linter.unusedVariables false
namespace Go.Proofs.YtlilnljneakngaaDoor
open Go.RowKit

theorem pre1 (l : Bytes) (a : UInt8) (ha : a.toNat ≠ 0) : Lib.hasPrefix l [a] = decide (nth l 0 = a.toNat) := by
  unfold Lib.hasPrefix
  cases l with
  | nil =>
    have : nth [] 0 = 0 := rfl
    rw [this, decide_eq_false (Ne.symm ha)]
    rfl
  | cons b r =>
    rw [nth_cons]
    by_cases h : b = a
    · subst h; simp [List.isPrefixOf]
    · have : b.toNat ≠ a.toNat := fun e => h (UInt8.toNat_inj.1 e)
      rw [decide_eq_false this]
      simp [List.isPrefixOf, Ne.symm h]
theorem pre2 (l : Bytes) (a b : UInt8) (ha : a.toNat ≠ 0) (hb : b.toNat ≠ 0) : Lib.hasPrefix l [a, b] = decide (nth l 0 = a.toNat ∧ nth l 1 = b.toNat) := by
  cases l with
  | nil =>
    have : nth [] 0 = 0 := rfl
    rw [this, decide_eq_false (fun e => (Ne.symm ha) e.1)]
    rfl
  | cons c r =>
    have h1 := pre1 r b hb
    unfold Lib.hasPrefix at h1 ⊢
    rw [nth_cons, nth_cons1, List.isPrefixOf, h1]
    by_cases h : c = a
    · subst h; simp
    · have : c.toNat ≠ a.toNat := fun e => h (UInt8.toNat_inj.1 e)
      rw [beq_eq_false_iff_ne.2 (Ne.symm h)]
      exact (decide_eq_false (fun e => this e.1)).symm
theorem has2 (s : ByteArray) (a b : UInt8) (w : World) (ha : a.toNat ≠ 0) (hb : b.toNat ≠ 0) (p : Bool) (hp : decide (nth (L s) 0 = a.toNat ∧ nth (L s) 1 = b.toNat) = p) :
    Calls Tryd.prog 23 #[.string s, .string ⟨#[a, b]⟩] w fun e w' => e = .returned (.bool p) ∧ w' = w := by
  refine (Tryd.strings_HasPrefix s ⟨#[a, b]⟩ w).mono ?_
  rintro e w' ⟨rfl, rfl⟩
  refine ⟨ret_bool ?_, rfl⟩
  rw [← hp]
  exact pre2 (L s) a b ha hb
theorem has1 (s : ByteArray) (a : UInt8) (w : World) (ha : a.toNat ≠ 0) (p : Bool) (hp : decide (nth (L s) 0 = a.toNat) = p) :
    Calls Tryd.prog 23 #[.string s, .string ⟨#[a]⟩] w fun e w' => e = .returned (.bool p) ∧ w' = w := by
  refine (Tryd.strings_HasPrefix s ⟨#[a]⟩ w).mono ?_
  rintro e w' ⟨rfl, rfl⟩
  refine ⟨ret_bool ?_, rfl⟩
  rw [← hp]
  exact pre1 (L s) a ha
theorem get_nth' (s : ByteArray) (i : Nat) (h : i < s.size) : (s[i]'h).toNat = nth (L s) i := by
  rw [get_at]
  unfold nth
  rw [List.getD_eq_getElem?_getD, List.getElem?_eq_getElem (by rw [L_len]; exact h)]
  rfl

/-- The digits' number so far. -/
def octV (l : Bytes) : Nat → Nat
  | 0 => 0
  | 1 => 0
  | k + 2 => octV l (k + 1) * 8 + (nth l (k + 1) - 48)
def OctRel (l : Bytes) (b i : Value) : Prop := ∃ k : Nat, 1 ≤ k ∧ k ≤ 4 ∧ i = .int .i64 (k : Int) ∧ (∀ j, 1 ≤ j → j < k → 48 ≤ nth l j ∧ nth l j ≤ 55) ∧ b = .int .u8 (octV l k : Int)
theorem oct_bd (l : Bytes) (h1 : nth l 1 ≤ 51) (k : Nat) (hk : k ≤ 3) (hd : ∀ j, 1 ≤ j → j < k → 48 ≤ nth l j ∧ nth l j ≤ 55) : octV l k ≤ 31 := by
  match k, hk with
  | 0, _ => simp [octV]
  | 1, _ => simp [octV]
  | 2, _ => simp only [octV, Nat.zero_add]; omega
  | 3, _ => have := hd 2 (by omega) (by omega); simp only [octV, Nat.zero_add, Nat.reduceAdd]; omega
theorem ret_pair {a b : Int} {c d : Int} (h1 : a = b) (h2 : c = d) : Ending.returned (.tuple #[.int .u8 a, .int .i64 c]) = .returned (.tuple #[.int .u8 b, .int .i64 d]) := by rw [h1, h2]
theorem or_oct (a d : Nat) (ha : a ≤ 31) (hd : d < 8) : (a * 8) ||| d = a * 8 + d := by
  have h := Nat.two_pow_add_eq_or_of_lt (i := 3) (b := d) (by omega) a
  rw [Nat.mul_comm]
  exact h.symm

set_option maxHeartbeats 2000000 in
set_option maxRecDepth 100000 in
theorem readEscape_any (s : ByteArray) (w : World) (hs : s.size ≤ 1000000) :
    Calls Tryd.prog 26 #[.string s] w fun e w' => e = .returned (.tuple #[.int .u8 ((rdE (L s)).1.toNat : Int), .int .i64 ((rdE (L s)).2 : Int)]) ∧ w' = w := by
  by_cases hn : nth (L s) 0 = 92 ∧ nth (L s) 1 = 110
  · have HE : Hid (rdE (L s) = (10, 2)) := Lib.hid (by unfold rdE; rw [if_pos hn])
    have c1 := has2 s 92 110 w (by decide) (by decide) true (decide_eq_true hn)
    go_enter Tryd.func26, Tryd.ntmps26
    go_wp2_with fail
    refine c1.mono ?_
    rintro e w2 ⟨rfl, rfl⟩
    go_wp2_with fail
    go_ret2
    rw [HE.out]
    exact ⟨rfl, rfl⟩
  · have c1 := has2 s 92 110 w (by decide) (by decide) false (decide_eq_false hn)
    by_cases ht : nth (L s) 0 = 92 ∧ nth (L s) 1 = 116
    · have HE : Hid (rdE (L s) = (9, 2)) := Lib.hid (by unfold rdE; rw [if_neg hn, if_pos ht])
      have c2 := has2 s 92 116 w (by decide) (by decide) true (decide_eq_true ht)
      go_enter Tryd.func26, Tryd.ntmps26
      go_wp2_with fail
      refine c1.mono ?_
      rintro e w2 ⟨rfl, rfl⟩
      go_wp2_with fail
      refine c2.mono ?_
      rintro e w2 ⟨rfl, rfl⟩
      go_wp2_with fail
      go_ret2
      rw [HE.out]
      exact ⟨rfl, rfl⟩
    · have c2 := has2 s 92 116 w (by decide) (by decide) false (decide_eq_false ht)
      by_cases hb : s.size < 4 ∨ nth (L s) 0 ≠ 92 ∨ 51 < nth (L s) 1
      · have HE : Hid (rdE (L s) = (0, 0)) := Lib.hid (by
          unfold rdE
          rw [if_neg hn, if_neg ht, if_neg]
          rintro ⟨h0, h1, h2, h3, h4, h5, h6⟩
          have := nth_in (l := L s) (i := 3) (by omega)
          rw [L_len] at this
          omega)
        by_cases h4 : s.size < 4
        · go_enter Tryd.func26, Tryd.ntmps26
          go_wp2_with fail
          refine c1.mono ?_
          rintro e w2 ⟨rfl, rfl⟩
          go_wp2_with fail
          refine c2.mono ?_
          rintro e w2 ⟨rfl, rfl⟩
          go_wp2_with fail
          go_ret2
          rw [HE.out]
          exact ⟨rfl, rfl⟩
        · have h0 : 0 < s.size := by omega
          have h1' : 1 < s.size := by omega
          have e0 := get_nth' s 0 h0
          have e1 := get_nth' s 1 h1'
          generalize nth (L s) 0 = n0 at *
          generalize nth (L s) 1 = n1 at *
          by_cases h92 : n0 = 92
          · have hy : 51 < n1 := by omega
            subst h92
            clear hb hn ht
            go_enter Tryd.func26, Tryd.ntmps26
            go_wp2_with fail
            refine c1.mono ?_
            rintro e w2 ⟨rfl, rfl⟩
            go_wp2_with fail
            refine c2.mono ?_
            rintro e w2 ⟨rfl, rfl⟩
            go_wp2_with fail
            go_ret2
            rw [HE.out]
            exact ⟨rfl, rfl⟩
          · have hx : ((n0 : Int) == 92) = false := beq_eq_false_iff_ne.2 (by omega)
            have hx2 : ((n0 : Int) != 92) = true := by rw [bne, hx]; rfl
            clear hb hn ht
            go_enter Tryd.func26, Tryd.ntmps26
            go_wp2_with fail
            refine c1.mono ?_
            rintro e w2 ⟨rfl, rfl⟩
            go_wp2_with fail
            refine c2.mono ?_
            rintro e w2 ⟨rfl, rfl⟩
            go_wp2_with fail
            go_ret2
            rw [HE.out]
            exact ⟨rfl, rfl⟩
      · have h4 : ¬ s.size < 4 := by omega
        have h92 : nth (L s) 0 = 92 := by omega
        have h51 : nth (L s) 1 ≤ 51 := by omega
        have h0 : 0 < s.size := by omega
        have h1' : 1 < s.size := by omega
        have e0 := get_nth' s 0 h0
        have e1 := get_nth' s 1 h1'
        rw [h92] at e0
        have H51 := Lib.hid h51
        have H92 := Lib.hid h92
        have HN := Lib.hid hn
        have HT := Lib.hid ht
        obtain ⟨n1, hn1⟩ : ∃ n1, nth (L s) 1 = n1 := ⟨_, rfl⟩
        rw [hn1] at e1
        have hy : n1 ≤ 51 := by omega
        clear h51 h92 hn ht hb hn1
        go_enter Tryd.func26, Tryd.ntmps26
        go_wp2_with fail
        refine c1.mono ?_
        rintro e w2 ⟨rfl, rfl⟩
        go_wp2_with fail
        refine c2.mono ?_
        rintro e w2 ⟨rfl, rfl⟩
        go_wp2_with fail
        go_loop [4, 5] (OctRel (L s)) (fun _ i => 4 - (intOf i).toNat)
        case atStart => exact ⟨1, by omega, by omega, rfl, fun j h1 h2 => by omega, rfl⟩
        case round =>
          obtain ⟨k, hk1, hk4, rfl, hd, rfl⟩ := hrel
          have HD := Lib.hid hd
          clear hd
          by_cases hk : k < 4
          · have hks : k < s.size := by omega
            have ek := get_nth' s k hks
            obtain ⟨d, hdd⟩ : ∃ d, nth (L s) k = d := ⟨_, rfl⟩
            rw [hdd] at ek
            have HV := Lib.hid (oct_bd (L s) H51.out k (by omega) HD.out)
            obtain ⟨v, hv⟩ : ∃ v, octV (L s) k = v := ⟨_, rfl⟩
            rw [hv] at HV ⊢
            have hvb : v ≤ 31 := HV.out
            by_cases hdig : 48 ≤ d ∧ d ≤ 55
            · have hor : Hid (bits .or .u8 ((v : Int) * 8) ((d : Int) - 48) = ((v * 8 + (d - 48) : Nat) : Int)) := Lib.hid (by
                rw [show ((v : Int) * 8) = ((v * 8 : Nat) : Int) by omega, show ((d : Int) - 48) = ((d - 48 : Nat) : Int) by omega, u8_or_nat _ _ (by omega) (by omega), or_oct v (d - 48) hvb (by omega)])
              have HDk : Hid (∀ j, 1 ≤ j → j < k + 1 → 48 ≤ nth (L s) j ∧ nth (L s) j ≤ 55) := Lib.hid (fun j h1 h2 => by
                by_cases hj : j = k
                · rw [hj, hdd]; exact hdig
                · exact HD.out j h1 (by omega))
              have HVk : Hid (octV (L s) (k + 1) = v * 8 + (d - 48)) := Lib.hid (by
                obtain ⟨m, rfl⟩ : ∃ m, k = m + 1 := ⟨k - 1, by omega⟩
                rw [octV, hv, hdd])
              go_wp2_with fail
              refine ⟨⟨k + 1, by omega, by omega, by go_num, HDk.out, by rw [hor.out, HVk.out]⟩, ?_⟩
              simp [intOf]
              omega
            · have HE : Hid (rdE (L s) = (0, 0)) := Lib.hid (by
                unfold rdE
                rw [if_neg HN.out, if_neg HT.out, if_neg]
                rintro ⟨h0, h1, h2, h3, h4, h5, h6⟩
                have : k = 1 ∨ k = 2 ∨ k = 3 := by omega
                rcases this with rfl | rfl | rfl <;> omega)
              by_cases hlo : d < 48
              · go_wp2_with fail
                go_ret2
                rw [HE.out]
                exact ⟨rfl, rfl⟩
              · have hhi : 55 < d := by omega
                clear hdig
                go_wp2_with fail
                go_ret2
                rw [HE.out]
                exact ⟨rfl, rfl⟩
          · obtain rfl : k = 4 := by omega
            have HE : Hid (rdE (L s) = ((octV (L s) 4).toUInt8, 4) ∧ octV (L s) 4 < 256) := Lib.hid (by
              have d1 := HD.out 1 (by omega) (by omega)
              have d2 := HD.out 2 (by omega) (by omega)
              have d3 := HD.out 3 (by omega) (by omega)
              have h51 := H51.out
              have e : octV (L s) 4 = (nth (L s) 1 - 48) * 64 + (nth (L s) 2 - 48) * 8 + (nth (L s) 3 - 48) := by
                simp only [octV, Nat.zero_add, Nat.reduceAdd]; omega
              constructor
              · rw [e]
                unfold rdE
                rw [if_neg HN.out, if_neg HT.out, if_pos ⟨H92.out, d1.1, h51, d2.1, d2.2, d3.1, d3.2⟩]
              · omega)
            obtain ⟨v, hv⟩ : ∃ v, octV (L s) 4 = v := ⟨_, rfl⟩
            rw [hv] at HE ⊢
            go_wp2_with fail
            go_ret2
            obtain ⟨h1, h2⟩ := HE.out
            rw [h1]
            exact ⟨ret_pair (by simp [Nat.mod_eq_of_lt h2]) rfl, rfl⟩
end Go.Proofs.YtlilnljneakngaaDoor
