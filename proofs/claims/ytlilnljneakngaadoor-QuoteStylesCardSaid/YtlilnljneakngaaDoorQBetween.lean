/-
  What quote.between and bare return. Conditions: the text has at most 1000000 bytes; the library's tables lie.
-/
import Derived.Test.YtlilnljneakngaaDoorQPlain
set_option linter.unusedVariables false
namespace Go.Proofs.YtlilnljneakngaaDoor
open Go.RowKit

/-- The text of bytes. -/
def T (l : Bytes) : ByteArray := ⟨l.toArray⟩
theorem L_T (l : Bytes) : L (T l) = l := rfl
theorem T_L (s : ByteArray) : T (L s) = s := L_eta s
theorem T_size (l : Bytes) : (T l).size = l.length := by rw [← L_len]; rfl
theorem L_add (a b : ByteArray) : L (a ++ b) = L a ++ L b := by
  show (a ++ b).data.toList = _
  rw [ByteArray.data_append, Array.toList_append]
theorem T_add (a b : Bytes) : T a ++ T b = T (a ++ b) := L_ext (by rw [L_add]; rfl)

theorem idx_split : ∀ (l : Bytes) (c : UInt8) (i : Nat), Lib.indexByte l c = (i : Int) → i < l.length ∧ c ∉ l.take i ∧ l.drop i = c :: l.drop (i + 1)
  | [], c, i, h => by simp only [Lib.indexByte] at h; omega
  | b :: l, c, i, h => by
    simp only [Lib.indexByte] at h
    by_cases hb : b = c
    · subst hb
      rw [if_pos (beq_self_eq_true b)] at h
      obtain rfl : i = 0 := by omega
      exact ⟨by simp, by simp, rfl⟩
    · have h1 : ¬ (b == c) = true := by simp [hb]
      rw [if_neg h1] at h
      by_cases h2 : (Lib.indexByte l c == -1) = true
      · rw [if_pos h2] at h; omega
      · rw [if_neg h2] at h
        obtain ⟨j, rfl⟩ : ∃ j, i = j + 1 := ⟨i - 1, by
          have := (idx_bd l c).1
          have : Lib.indexByte l c ≠ -1 := fun e => h2 (by rw [e]; rfl)
          omega⟩
        obtain ⟨p1, p2, p3⟩ := idx_split l c j (by omega)
        refine ⟨by simp; omega, ?_, ?_⟩
        · rw [List.take_succ_cons, List.mem_cons, not_or]
          exact ⟨Ne.symm hb, p2⟩
        · rw [List.drop_succ_cons, List.drop_succ_cons]; exact p3
theorem idx_none {l : Bytes} {c : UInt8} (h : Lib.indexByte l c < 0) : c ∉ l := (idx_neg l c).1 (by have := (idx_bd l c).1; omega)
theorem qb_none : ∀ {l : Bytes}, (39 : UInt8) ∉ l → l.flatMap qb = l
  | [], _ => rfl
  | b :: l, h => by
    rw [List.mem_cons, not_or] at h
    rw [List.flatMap_cons, qb_none h.2]
    unfold qb
    rw [if_neg (Ne.symm h.1)]
    rfl
theorem rep_all (l : Bytes) : Lib.replaceK [39] [39, 92, 39, 39] (Lib.count l [39]) l = l.flatMap qb := by
  obtain ⟨n, hn⟩ : ∃ n, l.length = n := ⟨_, rfl⟩
  induction n using Nat.strongRecOn generalizing l with
  | _ n ih =>
    by_cases h : Lib.indexByte l 39 < 0
    · have h1 : Lib.index l [39] = -1 := by rw [Lib.index_one]; have := (idx_bd l 39).1; omega
      rw [Lib.count_miss h1]
      rw [qb_none (idx_none h)]
      rfl
    · obtain ⟨i, hi⟩ : ∃ i : Nat, Lib.indexByte l 39 = i := ⟨(Lib.indexByte l 39).toNat, by omega⟩
      have h1 : Lib.index l [39] = (i : Int) := by rw [Lib.index_one, hi]
      obtain ⟨p1, p2, p3⟩ := idx_split l 39 i hi
      rw [Lib.count_hit (by simp) h1, Nat.add_comm, Lib.replaceK_hit _ _ _ _ i h1]
      simp only [List.length_cons, List.length_nil, Nat.zero_add]
      rw [ih _ (by rw [List.length_drop]; omega) _ rfl]
      conv => rhs; rw [← List.take_append_drop i l, p3, List.flatMap_append, List.flatMap_cons, qb_none p2]
      simp [qb]
theorem replaceAll_qb (l : Bytes) : Lib.replaceAll l [39] [39, 92, 39, 39] = l.flatMap qb := by
  unfold Lib.replaceAll Lib.replace Lib.replaceNum
  have : (([39] : List UInt8) == [39, 92, 39, 39]) = false := by decide
  rw [this, if_neg (by decide), if_pos (Or.inl (by decide)), rep_all]
theorem qb_len (l : Bytes) : (l.flatMap qb).length ≤ 4 * l.length := by
  induction l with
  | nil => simp
  | cons b l ih =>
    rw [List.flatMap_cons, List.length_append, List.length_cons]
    have : (qb b).length ≤ 4 := by unfold qb; split <;> simp
    omega
theorem bt_len (l : Bytes) : (bt l).length ≤ 4 * l.length + 2 := by
  have := qb_len l
  unfold bt
  simp only [List.length_cons, List.length_append, List.length_nil]
  omega

set_option maxHeartbeats 1000000 in
set_option maxRecDepth 100000 in
theorem between_any (s : ByteArray) (w : World) (hT : Tab w) (hs : s.size ≤ 1000000) :
    Calls Tryd.prog 17 #[.string s] w fun e w' => e = .returned (.string (T (bt (L s)))) ∧ Below w.heap.size w w' := by
  obtain ⟨_, m, hm⟩ := hT
  have hcount := Lib.countB_mul_le ⟨#[39]⟩ (by decide) s.size s (Nat.le_refl _)
  have h39 : (ByteArray.mk #[39]).size = 1 := rfl
  have h4 : (ByteArray.mk #[39, 92, 39, 39]).size = 4 := rfl
  have cR : Calls Tryd.prog 31 #[.string s, .string ⟨#[39]⟩, .string ⟨#[39, 92, 39, 39]⟩] w fun e w' => e = .returned (.string (T ((L s).flatMap qb))) ∧ Below w.heap.size w w' := by
    refine (Tryd.strings_ReplaceAll s ⟨#[39]⟩ ⟨#[39, 92, 39, 39]⟩ m w (by omega) hm (by decide) (by rw [h39] at hcount; rw [h4]; omega)).mono ?_
    rintro e w' ⟨rfl, hb⟩
    refine ⟨ret_str ?_, hb⟩
    exact L_ext (replaceAll_qb (L s))
  have hz := qb_len (L s)
  rw [L_len] at hz
  have hfin : T ([39] ++ (L s).flatMap qb ++ [39]) = T (bt (L s)) := rfl
  generalize (L s).flatMap qb = q at *
  have ha1 : ∀ w : World, (Op.stringOp .add ⟨#[39]⟩ (T q)).run Tryd.prog w = .ok (.string (⟨#[39]⟩ ++ T q)) w := fun w => run_string_add_sum w _ _ (by rw [h39, T_size]; omega)
  have ha2 : ∀ w : World, (Op.stringOp .add (⟨#[39]⟩ ++ T q) ⟨#[39]⟩).run Tryd.prog w = .ok (.string (⟨#[39]⟩ ++ T q ++ ⟨#[39]⟩)) w := fun w => run_string_add_sum w _ _ (by rw [ByteArray.size_append, h39, T_size]; omega)
  go_enter Tryd.func17, Tryd.ntmps17
  go_wp2_with fail
  refine cR.mono ?_
  rintro e w2 ⟨rfl, hb⟩
  go_wp2_with fail
  go_ret
  refine ⟨ret_str ?_, hb⟩
  rw [← hfin]
  exact L_ext (by rw [L_add, L_add]; rfl)

theorem bare_len (l : Bytes) : (bareP l).length ≤ 4 * l.length + 2 := by
  have := bt_len l
  unfold bareP
  split <;> omega

set_option maxHeartbeats 1000000 in
set_option maxRecDepth 100000 in
theorem bare_any (s : ByteArray) (w : World) (hT : Tab w) (hs : s.size ≤ 1000000) :
    Calls Tryd.prog 16 #[.string s] w fun e w' => e = .returned (.string (T (bareP (L s)))) ∧ Below w.heap.size w w' := by
  by_cases hne : L s = []
  · have he := empty_true hne
    have cB := between_any s w hT hs
    have HF : Hid (bareP (L s) = bt (L s)) := Lib.hid (by unfold bareP; rw [if_neg (by simp [hne])])
    generalize bt (L s) = q at *
    go_enter Tryd.func16, Tryd.ntmps16
    go_wp2_with fail
    refine cB.mono ?_
    rintro e w2 ⟨rfl, hb⟩
    go_wp2_with fail
    go_ret
    exact ⟨by rw [HF.out]; rfl, hb⟩
  · have he := empty_false hne
    have cA := allPlain_any s w hT hs
    have HP : Hid (∀ b, allPlain (L s) = b → bareP (L s) = if b then L s else bt (L s)) := Lib.hid (fun b hb => by
      unfold bareP
      cases b with
      | true => rw [if_pos ⟨hne, hb⟩]; rfl
      | false => rw [if_neg (by simp [hb])]; rfl)
    obtain ⟨p, hp⟩ : ∃ p, allPlain (L s) = p := ⟨_, rfl⟩
    rw [hp] at cA
    have HB := Lib.hid (HP.out p hp)
    clear hp HP
    cases p with
    | true =>
      go_enter Tryd.func16, Tryd.ntmps16
      go_wp2_with fail
      refine cA.mono ?_
      rintro e w2 ⟨rfl, hb⟩
      go_wp2_with fail
      go_ret
      exact ⟨by rw [HB.out]; exact ret_str (T_L s).symm, hb⟩
    | false =>
      go_enter Tryd.func16, Tryd.ntmps16
      go_wp2_with fail
      refine cA.mono ?_
      rintro e w2 ⟨rfl, hb⟩
      go_wp2_with fail
      refine (between_any s w2 (hT.keep hb) hs).mono ?_
      rintro e w3 ⟨rfl, hb3⟩
      go_wp2_with fail
      go_ret
      exact ⟨by rw [HB.out]; rfl, below_two hb hb3⟩
end Go.Proofs.YtlilnljneakngaaDoor
