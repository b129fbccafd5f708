/-
  What quote.first returns: the kind and the length of a text's first character. Conditions: the text isn't empty; the library's tables lie.
-/
import Derived.Test.YtigkdehaepenhaaGreatDoorKQLaid
set_option linter.unusedVariables false
namespace Go.Proofs.YtigkdehaepenhaaGreatDoor.Q
open Go.RowKit

theorem kc_first (l : Bytes) (h : l ≠ []) : kc (l.take (sz l)) = if 1 < sz l then 0 else kb (nth l 0) := by
  have h2 := sz_le l h
  have h3 := sz_bd l
  by_cases h1 : 1 < sz l
  · rw [if_pos h1, kc_multi (by rw [List.length_take]; omega)]
  · rw [if_neg h1]
    have : sz l = 1 := by omega
    rw [this]
    cases l with
    | nil => exact absurd rfl h
    | cons b r => rfl
theorem dec_ascii {l : Bytes} (h : nth l 0 < 128) : dec l = (nth l 0, 1) := by
  unfold dec Lib.decodeN
  rw [if_pos h]
theorem sign_iff (n : Nat) : ([95, 64, 37, 43, 61, 58, 44, 46, 47, 45] : List Nat).contains n = true ↔ (n = 95 ∨ n = 64 ∨ n = 37 ∨ n = 43 ∨ n = 61 ∨ n = 58 ∨ n = 44 ∨ n = 46 ∨ n = 47 ∨ n = 45) := by
  simp
theorem idx_neg (l : List UInt8) (c : UInt8) : Lib.indexByte l c = -1 ↔ c ∉ l := by
  induction l with
  | nil => simp [Lib.indexByte]
  | cons b l ih =>
    simp only [Lib.indexByte, List.mem_cons, not_or]
    by_cases h : b = c
    · subst h; simp
    · have : (b == c) = false := beq_eq_false_iff_ne.2 h
      rw [this]
      have hp : -1 ≤ Lib.indexByte l c := by
        clear ih
        induction l with
        | nil => simp [Lib.indexByte]
        | cons b l ih =>
          simp only [Lib.indexByte]
          repeat' split
          all_goals first | omega | (rename_i h; omega)
      by_cases h2 : Lib.indexByte l c = -1
      · have := ih.1 h2
        simp [h2, this, Ne.symm h]
      · have h3 : c ∈ l := Classical.byContradiction fun hc => h2 (ih.2 hc)
        have : (Lib.indexByte l c == -1) = false := beq_eq_false_iff_ne.2 h2
        simp only [this, h3]
        simp
        omega
theorem idx_bd (l : List UInt8) (c : UInt8) : -1 ≤ Lib.indexByte l c ∧ Lib.indexByte l c < l.length := by
  induction l with
  | nil => simp [Lib.indexByte]
  | cons b l ih =>
    simp only [Lib.indexByte, List.length_cons]
    repeat' split
    all_goals omega
theorem sign_idx (b : UInt8) : (0 ≤ Lib.indexByte [95, 64, 37, 43, 61, 58, 44, 46, 47, 45] b) ↔ ([95, 64, 37, 43, 61, 58, 44, 46, 47, 45] : List Nat).contains b.toNat = true := by
  have h1 := idx_neg [95, 64, 37, 43, 61, 58, 44, 46, 47, 45] b
  have h2 := idx_bd [95, 64, 37, 43, 61, 58, 44, 46, 47, 45] b
  have h3 : b ∈ ([95, 64, 37, 43, 61, 58, 44, 46, 47, 45] : List UInt8) ↔ ([95, 64, 37, 43, 61, 58, 44, 46, 47, 45] : List Nat).contains b.toNat = true := by
    rw [sign_iff]
    simp only [List.mem_cons, List.not_mem_nil, or_false, ← UInt8.toNat_inj]
    rfl
  rw [← h3]
  by_cases h : b ∈ ([95, 64, 37, 43, 61, 58, 44, 46, 47, 45] : List UInt8)
  · have : ¬ Lib.indexByte [95, 64, 37, 43, 61, 58, 44, 46, 47, 45] b = -1 := fun e => (h1.1 e) h
    exact ⟨fun _ => h, fun _ => by omega⟩
  · have := h1.2 h
    exact ⟨fun h' => by omega, fun h' => absurd h' h⟩

def FirstEnds (s : ByteArray) (w : World) (e : Ending) (w' : World) : Prop := e = .returned (.tuple #[.int .i64 ((kc ((L s).take (sz (L s))) : Nat) : Int), .int .i64 ((sz (L s) : Nat) : Int)]) ∧ Below w.heap.size w w'
theorem first_ends {s : ByteArray} {w w' : World} {k n : Int} (h : L s ≠ []) (hk : k = ((if 1 < sz (L s) then 0 else kb (nth (L s) 0) : Nat) : Int)) (hn : n = ((sz (L s) : Nat) : Int)) (hb : Below w.heap.size w w') :
    FirstEnds s w (.returned (.tuple #[.int .i64 k, .int .i64 n])) w' := by
  subst hk; subst hn
  exact ⟨by rw [kc_first _ h], hb⟩

set_option maxHeartbeats 2000000 in
set_option maxRecDepth 100000 in
theorem first_any (s : ByteArray) (w : World) (hT : Tab w) (h : L s ≠ []) : Calls Tryz.prog 144 #[.string s] w (FirstEnds s w) := by
  have cD := Tryz.utf8_DecodeRuneInString s w hT.1
  have h0 : 0 < s.size := L_ne.1 h
  obtain ⟨c, hc⟩ : ∃ c : Nat, nth (L s) 0 = c := ⟨_, rfl⟩
  obtain ⟨b, hbt⟩ : ∃ b : UInt8, s[0]'h0 = b := ⟨_, rfl⟩
  have hbc : b.toNat = c := by rw [← hbt, get_at0 s h0, hc]
  have hc256 : c < 256 := by rw [← hbc]; exact b.toNat_lt
  obtain ⟨R, hR⟩ : ∃ R, (Lib.decodeGo s).1 = R := ⟨_, rfl⟩
  obtain ⟨K, hK⟩ : ∃ K, (Lib.decodeGo s).2 = K := ⟨_, rfl⟩
  rw [hR, hK] at cD
  rw [decodeGo_L s h] at hR hK
  have hKs : Hid (sz (L s) = K) := Lib.hid hK
  have hbd : 1 ≤ K ∧ K ≤ 4 := by rw [← hKs.out]; exact sz_bd _
  have hRc : Hid (c < 128 → R = c ∧ K = 1) := Lib.hid (fun hlt => by
    have := dec_ascii (l := L s) (by rw [hc]; exact hlt)
    rw [this] at hR hK
    rw [← hR, ← hK, hc]
    exact ⟨rfl, rfl⟩)
  clear hR hK
  have fin : ∀ (w' : World) (k n : Int), k = ((if 1 < K then 0 else kb c : Nat) : Int) → n = K → Below w.heap.size w w' → FirstEnds s w (.returned (.tuple #[.int .i64 k, .int .i64 n])) w' := by
    intro w' k n hk hn hb
    refine first_ends h ?_ ?_ hb
    · rw [hKs.out, hc]; exact hk
    · rw [hKs.out]; exact hn
  by_cases h1 : 1 < K
  · have HF := Lib.hid fin
    clear fin
    have hd : decide ((1 : Int) < (K : Int)) = true := by rw [decide_eq_true_eq]; omega
    go_enter Tryz.func144, Tryz.ntmps144
    go_wp2_with fail; refine cD.mono ?_; rintro e w' ⟨rfl, hb⟩; go_wp2_with fail
    go_ret2
    exact HF.out _ _ _ (by rw [if_pos h1]; rfl) rfl hb
  · have hK1 : K = 1 := by omega
    subst hK1
    by_cases hh : c < 32 ∨ 127 ≤ c
    · have HF := Lib.hid fin
      clear fin
      have hkb : kb c = 1 := by unfold kb; rw [if_pos hh]
      rcases hh with hh | hh
      · go_enter Tryz.func144, Tryz.ntmps144
        go_wp2_with fail; refine cD.mono ?_; rintro e w' ⟨rfl, hb⟩; go_wp2_with fail
        go_ret2
        exact HF.out _ _ _ (by rw [if_neg h1, hkb]; rfl) rfl hb
      · go_enter Tryz.func144, Tryz.ntmps144
        go_wp2_with fail; refine cD.mono ?_; rintro e w' ⟨rfl, hb⟩; go_wp2_with fail
        go_ret2
        exact HF.out _ _ _ (by rw [if_neg h1, hkb]; rfl) rfl hb
    · obtain ⟨hRR, _⟩ := hRc.out (by omega)
      subst hRR
      by_cases hl : (65 ≤ R ∧ R ≤ 90) ∨ (97 ≤ R ∧ R ≤ 122) ∨ (48 ≤ R ∧ R ≤ 57)
      · have HF := Lib.hid fin
        clear fin
        have hkb : kb R = 0 := by
          unfold kb
          rw [if_neg hh]
          have : plainB R = true := by
            unfold plainB
            simp only [Bool.or_eq_true, Bool.and_eq_true, decide_eq_true_eq]
            omega
          rw [if_pos this]
        rcases hl with hl | hl | hl
        · go_enter Tryz.func144, Tryz.ntmps144
          go_wp2_with fail; refine cD.mono ?_; rintro e w' ⟨rfl, hb⟩; go_wp2_with fail
          go_ret2
          exact HF.out _ _ _ (by rw [if_neg h1, hkb]; rfl) rfl hb
        · go_enter Tryz.func144, Tryz.ntmps144
          go_wp2_with fail; refine cD.mono ?_; rintro e w' ⟨rfl, hb⟩; go_wp2_with fail
          go_ret2
          exact HF.out _ _ _ (by rw [if_neg h1, hkb]; rfl) rfl hb
        · go_enter Tryz.func144, Tryz.ntmps144
          go_wp2_with fail; refine cD.mono ?_; rintro e w' ⟨rfl, hb⟩; go_wp2_with fail
          go_ret2
          exact HF.out _ _ _ (by rw [if_neg h1, hkb]; rfl) rfl hb
      · obtain ⟨I, hI⟩ : ∃ I, Lib.indexByte [95, 64, 37, 43, 61, 58, 44, 46, 47, 45] b = I := ⟨_, rfl⟩
        have cI : ∀ w, Calls Tryz.prog 45 #[.string ⟨#[95, 64, 37, 43, 61, 58, 44, 46, 47, 45]⟩, .int .u8 (R : Int)] w fun e w' => e = .returned (.int .i64 I) ∧ w' = w := by
          intro w
          have := Tryz.strings_IndexByte ⟨#[95, 64, 37, 43, 61, 58, 44, 46, 47, 45]⟩ (R : Int) w
          have e : (R : Int).toNat.toUInt8 = b := by
            rw [Int.toNat_natCast, ← hbc]
            simp
          rw [e] at this
          rw [← hI]
          exact this
        have hS := sign_idx b
        rw [hI, hbc] at hS
        have HS := Lib.hid hS
        have HF := Lib.hid fin
        clear fin hS
        by_cases hi : 0 ≤ I
        · have hkb : kb R = 0 := by
            unfold kb
            rw [if_neg hh]
            have : plainB R = true := by
              unfold plainB
              rw [HS.out.1 hi, Bool.or_true]
            rw [if_pos this]
          go_enter Tryz.func144, Tryz.ntmps144
          go_wp2_with fail; refine cD.mono ?_; rintro e w' ⟨rfl, hb⟩; go_wp2_with fail
          all_goals (refine (cI _).mono ?_; rintro e w2 ⟨rfl, rfl⟩; go_wp2_with fail; go_ret2; exact HF.out _ _ _ (by rw [if_neg h1, hkb]; rfl) rfl hb)
        · have hkb : kb R = 2 := by
            unfold kb
            rw [if_neg hh]
            have : plainB R = false := by
              unfold plainB
              have h2 : ([95, 64, 37, 43, 61, 58, 44, 46, 47, 45] : List Nat).contains R = false := by
                cases hb2 : ([95, 64, 37, 43, 61, 58, 44, 46, 47, 45] : List Nat).contains R with
                | false => rfl
                | true => exact absurd (HS.out.2 hb2) hi
              rw [h2]
              simp only [Bool.or_false, Bool.or_eq_false_iff, Bool.and_eq_false_iff, decide_eq_false_iff_not]
              omega
            rw [this]
            rfl
          go_enter Tryz.func144, Tryz.ntmps144
          go_wp2_with fail; refine cD.mono ?_; rintro e w' ⟨rfl, hb⟩; go_wp2_with fail
          all_goals (refine (cI _).mono ?_; rintro e w2 ⟨rfl, rfl⟩; go_wp2_with fail; go_ret2; exact HF.out _ _ _ (by rw [if_neg h1, hkb]; rfl) rfl hb)
end Go.Proofs.YtigkdehaepenhaaGreatDoor.Q
