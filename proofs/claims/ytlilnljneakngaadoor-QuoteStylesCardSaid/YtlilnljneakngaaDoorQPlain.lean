/-
  What quote.hasHard and allPlain return. Conditions: the text has at most 1000000 bytes; the library's tables lie.
-/
import Derived.Test.YtlilnljneakngaaDoorQRun
set_option linter.unusedVariables false
namespace Go.Proofs.YtlilnljneakngaaDoor
open Go.RowKit

theorem flat_pos {cs : List Bytes} (hc : ∀ c ∈ cs, Chr c) (h : cs ≠ []) : 0 < cs.flatten.length := by
  cases cs with
  | nil => exact absurd rfl h
  | cons c r =>
    have := (hc c (by simp)).ne
    rw [List.flatten_cons, List.length_append]
    have := List.length_pos_iff.2 this
    omega
theorem run_split (h : Bool) (l : Bytes) : l = ((chunks l).takeWhile (fun c => hardC c == h)).flatten ++ ((chunks l).dropWhile (fun c => hardC c == h)).flatten := by
  conv => lhs; rw [← chunks_flat l, ← List.takeWhile_append_dropWhile (p := fun c => hardC c == h) (l := chunks l)]
  rw [List.flatten_append]
theorem any_iff (cs : List Bytes) : (cs.any hardC = true) ↔ cs.dropWhile (fun c => hardC c == false) ≠ [] := by
  induction cs with
  | nil => simp
  | cons c r ih =>
    cases hc : hardC c with
    | true => simp [List.dropWhile, hc]
    | false =>
      simp only [List.any_cons, hc, Bool.false_or, List.dropWhile, beq_self_eq_true]
      exact ih
theorem hasHard_iff (l : Bytes) : hasHard l = decide (runP false l < l.length) := by
  have h1 := run_split false l
  have h2 : l.length = runP false l + ((chunks l).dropWhile (fun c => hardC c == false)).flatten.length := by
    conv => lhs; rw [h1, List.length_append]
    rfl
  have h3 := any_iff (chunks l)
  unfold hasHard
  by_cases h : (chunks l).dropWhile (fun c => hardC c == false) = []
  · rw [h] at h2
    simp only [List.flatten_nil, List.length_nil] at h2
    rw [decide_eq_false (by omega)]
    cases hb : (chunks l).any hardC with
    | false => rfl
    | true => exact absurd h (h3.1 hb)
  · have h4 := flat_pos (fun c hc => chunks_chr l c ((List.dropWhile_sublist _).subset hc)) h
    rw [decide_eq_true (by omega)]
    exact h3.2 h
theorem allPlain_nil : allPlain [] = true := by unfold allPlain; rw [chunks_nil]; rfl
theorem allPlain_step {l : Bytes} (h : l ≠ []) : allPlain l = ((kc (l.take (sz l)) == 0) && allPlain (l.drop (sz l))) := by
  unfold allPlain
  rw [chunks_step l h]
  rfl
theorem empty_true {s : ByteArray} (h : L s = []) : s.toList.isEmpty = true := by rw [toList_L, h]; rfl
theorem empty_false {s : ByteArray} (h : L s ≠ []) : s.toList.isEmpty = false := by
  rw [toList_L]
  cases hl : L s with
  | nil => exact absurd hl h
  | cons _ _ => rfl

set_option maxHeartbeats 1000000 in
theorem hasHard_any (s : ByteArray) (w : World) (hT : Tab w) (hs : s.size ≤ 1000000) :
    Calls Tryd.prog 18 #[.string s] w fun e w' => e = .returned (.bool (hasHard (L s))) ∧ Below w.heap.size w w' := by
  have cR := run_any s false w hT hs
  have HH := Lib.hid (hasHard_iff (L s))
  generalize runP false (L s) = n at *
  go_enter Tryd.func18, Tryd.ntmps18
  go_wp2_with fail
  refine cR.mono ?_
  rintro e w2 ⟨rfl, hb⟩
  go_wp2_with fail
  go_ret
  refine ⟨ret_bool ?_, hb⟩
  rw [HH.out, L_len]
  first | done | exact decide_eq_decide.2 (by omega)

def PlainRel (s : ByteArray) (w : World) (v : Value) (w' : World) : Prop := ∃ t : ByteArray, v = .string t ∧ t.size ≤ s.size ∧ allPlain (L t) = allPlain (L s) ∧ Below w.heap.size w w'

set_option maxHeartbeats 1000000 in
set_option maxRecDepth 100000 in
theorem allPlain_any (s : ByteArray) (w : World) (hT : Tab w) (hs : s.size ≤ 1000000) :
    Calls Tryd.prog 30 #[.string s] w fun e w' => e = .returned (.bool (allPlain (L s))) ∧ Below w.heap.size w w' := by
  go_enter Tryd.func30, Tryd.ntmps30
  go_wp2
  go_loopw [0] (PlainRel s w) (fun v _ => (textOf v).size)
  case atStart => exact ⟨s, rfl, Nat.le_refl _, rfl, Below.refl _ _⟩
  case round =>
    obtain ⟨t, rfl, hts, hr, hb⟩ := hrel
    have HB := Lib.hid hb
    have HR := Lib.hid hr
    clear hb hr
    by_cases hne : L t = []
    · have he := empty_true hne
      go_wp2
      go_ret
      refine ⟨ret_bool ?_, HB.out⟩
      rw [← HR.out, hne, allPlain_nil]
    · have he := empty_false hne
      have HN := Lib.hid hne
      obtain ⟨K, hK⟩ : ∃ K, sz (L t) = K := ⟨_, rfl⟩
      obtain ⟨k, hk⟩ : ∃ k, kc ((L t).take K) = k := ⟨_, rfl⟩
      have cF := first_of t K k wr (hT.keep HB.out) hne hK hk
      have hbd : 1 ≤ K ∧ K ≤ 4 := by rw [← hK]; exact sz_bd _
      have hle : K ≤ t.size := by
        have h1 := sz_le _ hne
        rw [hK, L_len] at h1
        omega
      have HP : Hid (allPlain (L t) = ((k == 0) && allPlain ((L t).drop K))) := Lib.hid (by rw [allPlain_step hne, hK, hk])
      clear hK hk hne
      go_wp2_with fail
      refine cF.mono ?_
      rintro e w2 ⟨rfl, hb2⟩
      have HB2 := Lib.hid (below_two HB.out hb2)
      clear hb2
      by_cases hq : k = 0
      · subst hq
        go_wp2_with fail
        go_roundw
        case rel =>
          refine ⟨t.extract K t.size, rfl, ?_, ?_, HB2.out⟩
          · rw [← L_len, L_from, List.length_drop, L_len]; omega
          · rw [← HR.out, HP.out, L_from]; rfl
        case measure =>
          show (t.extract K t.size).size < t.size
          rw [← L_len, L_from, List.length_drop, L_len]; omega
      · have hq2 : (((k : Nat) : Int) == 0) = false := beq_eq_false_iff_ne.2 (by omega)
        go_wp2_with fail
        go_ret
        refine ⟨ret_bool ?_, HB2.out⟩
        rw [← HR.out, HP.out, beq_eq_false_iff_ne.2 hq]
        rfl
end Go.Proofs.YtlilnljneakngaaDoor
