/-
  What the reference's Escape and Always return. Conditions: the text has at most 1000000 bytes.
-/
import Derived.Test.YtlilnljneakngaaDoorQStyM
import Derived.Test.YtlilnljneakngaaDoorQOwn
set_option linter.unusedVariables false
namespace Go.Proofs.YtlilnljneakngaaDoor
open Go.RowKit

theorem add_str (a b : ByteArray) (h : a.size + b.size ≤ 100000000) (w : World) : (Op.stringOp .add a b).run Tryd.prog w = .ok (.string (a ++ b)) w := run_string_add_sum w _ _ (by omega)
theorem three_text (w : World) (d1 d2 d3 : UInt8) (x y z : Int) (hx : x = (d1.toNat : Int)) (hy : y = (d2.toNat : Int)) (hz : z = (d3.toNat : Int)) :
    (convert 34 9 (.slice (some ⟨w.heap.size, 0, Option.none⟩) 3 3)).run Tryd.prog (w.alloc (.cells #[.int .u8 x, .int .u8 y, .int .u8 z] 5)) = .ok (.string (T [d1, d2, d3])) (w.alloc (.cells #[.int .u8 x, .int .u8 y, .int .u8 z] 5)) := by
  subst hx hy hz
  refine run_convert_bytes_back _ 34 9 5 ⟨w.heap.size, 0, Option.none⟩ 3 [d1, d2, d3] Tryd.underlying34 Tryd.underlying5 Tryd.underlying9 ?_
  intro j hj
  have : j < 3 := hj
  match j, this with
  | 0, _ => simp [Addr.add]
  | 1, _ => simp [Addr.add]
  | 2, _ => simp [Addr.add]

set_option maxHeartbeats 1000000 in
set_option maxRecDepth 100000 in
theorem escape_any (c : UInt8) (n : Nat) (hn : c.toNat = n) (w : World) :
    Calls Tryd.prog 22 #[.int .u8 (n : Int)] w fun e w' => e = .returned (.string (T (esc c))) ∧ Below w.heap.size w w' := by
  have hc := c.toNat_lt
  rw [hn] at hc
  by_cases h10 : n = 10
  · have he : T (esc c) = ⟨#[92, 110]⟩ := by
      have : c = 10 := UInt8.toNat_inj.1 (by rw [hn, h10]; rfl)
      subst this; rfl
    rw [h10, he]
    go_enter Tryd.func22, Tryd.ntmps22
    go_wp2_with fail
    go_ret
    exact ⟨rfl, Below.refl _ _⟩
  · by_cases h9 : n = 9
    · have he : T (esc c) = ⟨#[92, 116]⟩ := by
        have : c = 9 := UInt8.toNat_inj.1 (by rw [hn, h9]; rfl)
        subst this; rfl
      rw [h9, he]
      go_enter Tryd.func22, Tryd.ntmps22
      go_wp2_with fail
      go_ret
      exact ⟨rfl, Below.refl _ _⟩
    · have he : Hid (T (esc c) = ⟨#[92]⟩ ++ T [48 + c / 64, 48 + c / 8 % 8, 48 + c % 8]) := Lib.hid (by
        unfold esc
        rw [if_neg (fun e => h10 (by rw [← hn, e]; rfl)), if_neg (fun e => h9 (by rw [← hn, e]; rfl))]
        exact L_ext (by rw [L_add]; rfl))
      have d1 : (48 + (n : Int) / 64) = ((48 + c / 64 : UInt8).toNat : Int) := by
        rw [UInt8.toNat_add, UInt8.toNat_div, hn]; show _ = (((48 + n / 64) % 256 : Nat) : Int); omega
      have d2 : (48 + (n : Int) / 8 % 8) = ((48 + c / 8 % 8 : UInt8).toNat : Int) := by
        rw [UInt8.toNat_add, UInt8.toNat_mod, UInt8.toNat_div, hn]; show _ = (((48 + n / 8 % 8) % 256 : Nat) : Int); omega
      have d3 : (48 + (n : Int) % 8) = ((48 + c % 8 : UInt8).toNat : Int) := by
        rw [UInt8.toNat_add, UInt8.toNat_mod, hn]; show _ = (((48 + n % 8) % 256 : Nat) : Int); omega
      have hcv := three_text w _ _ _ _ _ _ d1 d2 d3
      have ha := add_str ⟨#[92]⟩ (T [48 + c / 64, 48 + c / 8 % 8, 48 + c % 8]) (by rw [T_size]; show 1 + 3 ≤ _; omega)
      have q1 : ((n : Int) == 10) = false := beq_eq_false_iff_ne.2 (by omega)
      have q2 : ((n : Int) == 9) = false := beq_eq_false_iff_ne.2 (by omega)
      have b1 : (48 + (n : Int) / 64) < 256 := by omega
      generalize T [48 + c / 64, 48 + c / 8 % 8, 48 + c % 8] = q at *
      clear d1 d2 d3 h10 h9
      go_enter Tryd.func22, Tryd.ntmps22
      go_wp2_with fail
      go_ret
      rw [he.out]
      exact ⟨rfl, (Below.refl _ _).alloc (Nat.le_refl _) _⟩

def AlwRel (s : ByteArray) (v3 v4 : Value) : Prop :=
  ∃ (i : Nat) (t : ByteArray), i ≤ s.size ∧ v4 = .int .i64 (i : Int) ∧ v3 = .string t ∧ t.size ≤ 1 + 4 * i ∧ L t ++ ((L s).drop i).flatMap qb = 39 :: (L s).flatMap qb
theorem one_byte (s : ByteArray) (i : Nat) (h : i < s.size) : L (s.extract i (i + 1)) = [(L s)[i]'(by rw [L_len]; exact h)] := by
  have hl : i < (L s).length := by rw [L_len]; exact h
  rw [L_extract, List.take_succ_eq_append_getElem hl, List.drop_left' (by rw [List.length_take]; omega)]

set_option maxHeartbeats 1000000 in
set_option maxRecDepth 100000 in
theorem always_any (s : ByteArray) (w : World) (hs : s.size ≤ 1000000) :
    Calls Tryd.prog 21 #[.string s] w fun e w' => e = .returned (.string (T (bt (L s)))) ∧ w' = w := by
  go_enter Tryd.func21, Tryd.ntmps21
  go_wp2
  go_loop [3, 4] (AlwRel s) (fun _ i => s.size - (intOf i).toNat)
  case atStart => exact ⟨0, ⟨#[39]⟩, Nat.zero_le _, rfl, rfl, by decide, by rw [List.drop_zero]; rfl⟩
  case round =>
    obtain ⟨i, t, hi, rfl, rfl, hz, hr⟩ := hrel
    have HR := Lib.hid hr
    clear hr
    by_cases hlt : i < s.size
    · have hll : i < (L s).length := by rw [L_len]; exact hlt
      have ei := get_nth' s i hlt
      obtain ⟨b, hb⟩ : ∃ b, nth (L s) i = b := ⟨_, rfl⟩
      rw [hb] at ei
      obtain ⟨c, hc⟩ : ∃ c, s[i]'hlt = c := ⟨_, rfl⟩
      rw [hc] at ei
      have HD : Hid ((L s).drop i = c :: (L s).drop (i + 1)) := Lib.hid (by rw [drop_cons hll, ← hc]; rfl)
      have HX : Hid (L (s.extract i (i + 1)) = [c]) := Lib.hid (by rw [one_byte s i hlt, ← hc]; rfl)
      have hxz : (s.extract i (i + 1)).size = 1 := by rw [← L_len, HX.out]; rfl
      have h4 : (ByteArray.mk #[39, 92, 39, 39]).size = 4 := rfl
      by_cases h39 : b = 39
      · have hq : Hid (qb c = [39, 92, 39, 39]) := Lib.hid (by
          have : c = 39 := (toNat_eq (by decide)).1 (by rw [ei, h39])
          rw [this]; rfl)
        have hx : ((b : Int) == 39) = true := by rw [h39]; rfl
        have ha := add_str t ⟨#[39, 92, 39, 39]⟩ (by omega)
        clear h39 hb
        go_wp2_with fail
        refine ⟨⟨i + 1, t ++ ⟨#[39, 92, 39, 39]⟩, by omega, by go_num, rfl, by rw [ByteArray.size_append, h4]; omega, ?_⟩, ?_⟩
        · rw [← HR.out, HD.out, List.flatMap_cons, hq.out, L_add, List.append_assoc]
        · simp [intOf]; omega
      · have hq : Hid (qb c = [c]) := Lib.hid (by
          unfold qb
          rw [if_neg]
          intro e
          rw [e] at ei
          exact h39 ei.symm)
        have hx : ((b : Int) == 39) = false := beq_eq_false_iff_ne.2 (by omega)
        have ha := add_str t (s.extract i (i + 1)) (by omega)
        clear h39 hb
        go_wp2_with fail
        refine ⟨⟨i + 1, t ++ s.extract i (i + 1), by omega, by go_num, rfl, by rw [ByteArray.size_append, hxz]; omega, ?_⟩, ?_⟩
        · rw [← HR.out, HD.out, List.flatMap_cons, hq.out, L_add, HX.out, List.append_assoc]
        · simp [intOf]; omega
    · have h0 : (L s).drop i = [] := List.drop_eq_nil_of_le (by rw [L_len]; omega)
      have h1 : (ByteArray.mk #[39]).size = 1 := rfl
      have ha := add_str t ⟨#[39]⟩ (by omega)
      have HF : Hid (t ++ ⟨#[39]⟩ = T (bt (L s))) := Lib.hid (L_ext (by
        have := HR.out
        rw [h0, List.flatMap_nil, List.append_nil] at this
        rw [L_add, this]
        rfl))
      go_wp2_with fail
      go_ret
      exact ⟨ret_str HF.out, rfl⟩
end Go.Proofs.YtlilnljneakngaaDoor
