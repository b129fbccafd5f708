/-
  What the reference's Less, Ext and numbers return. Conditions: texts of at most 1000000 bytes.
-/
import Derived.Test.YteeddednonmglaaDoorOBase
set_option linter.unusedVariables false
namespace Go.Proofs.YteeddednonmglaaDoor
open Go.RowKit

theorem drop_at {α : Type} {l : List α} {k : Nat} {b : α} (h : l[k]? = some b) : l.drop k = b :: l.drop (k + 1) := by
  obtain ⟨hk, rfl⟩ := List.getElem?_eq_some_iff.1 h
  exact (List.drop_eq_getElem_cons hk)
theorem less_step {A B : List UInt8} {k : Nat} {x y : UInt8} (hx : A[k]? = some x) (hy : B[k]? = some y) : lessL (A.drop k) (B.drop k) = if x.toNat < y.toNat then -1 else if y.toNat < x.toNat then 1 else lessL (A.drop (k + 1)) (B.drop (k + 1)) := by
  have hc : cmpB x y = if x.toNat < y.toNat then -1 else if y.toNat < x.toNat then 1 else 0 := by
    unfold cmpB cmpI
    simp only [Int.ofNat_lt]
  rw [drop_at hx, drop_at hy]
  show (if cmpB x y = 0 then _ else _) = _
  rw [hc]
  by_cases h1 : x.toNat < y.toNat
  · rw [if_pos h1, if_pos h1, if_neg (by decide)]
  · rw [if_neg h1, if_neg h1]
    by_cases h2 : y.toNat < x.toNat
    · rw [if_pos h2, if_pos h2, if_neg (by decide)]
    · rw [if_neg h2, if_neg h2, if_pos rfl]
      rfl
theorem less_end {A B : List UInt8} {k : Nat} (h : A.length ≤ k ∨ B.length ≤ k) (ha : k ≤ A.length) (hb : k ≤ B.length) : lessL (A.drop k) (B.drop k) = if A.length < B.length then -1 else if B.length < A.length then 1 else 0 := by
  rcases h with h | h
  · rw [List.drop_of_length_le h]
    by_cases q : A.length < B.length
    · rw [if_pos q]
      obtain ⟨y, hy⟩ : ∃ y, B[k]? = some y := ⟨_, List.getElem?_eq_getElem (by omega)⟩
      rw [drop_at hy]
      rfl
    · rw [if_neg q, if_neg (by omega), List.drop_of_length_le (by omega)]
      rfl
  · rw [List.drop_of_length_le h]
    by_cases q : B.length < A.length
    · rw [if_neg (by omega), if_pos q]
      obtain ⟨y, hy⟩ : ∃ y, A[k]? = some y := ⟨_, List.getElem?_eq_getElem (by omega)⟩
      rw [drop_at hy]
      rfl
    · rw [if_neg (by omega), if_neg q, List.drop_of_length_le (by omega)]
      rfl
def LessRel (a b : ByteArray) (w : World) (v : Value) (wr : World) : Prop :=
  ∃ k : Nat, k ≤ a.size ∧ k ≤ b.size ∧ v = .int .i64 (k : Int) ∧ Hid (lessL a.data.toList b.data.toList = lessL (a.data.toList.drop k) (b.data.toList.drop k)) ∧ Hid (∃ m, wr = w.drewN m)

set_option maxRecDepth 100000 in
set_option maxHeartbeats 4000000 in
theorem rless_any (a b : ByteArray) (w : World) (ha : a.size ≤ 1000000) (hb : b.size ≤ 1000000) :
    Calls Tryd.prog 25 #[.string a, .string b] w fun e w' => e = .returned (.int .i64 (lessL a.data.toList b.data.toList)) ∧ ∃ m, w' = w.drewN m := by
  go_enter Tryd.func25, Tryd.ntmps25
  go_wp2
  go_loopw [5] (LessRel a b w) (fun v _ => a.size - (intOf v).toNat)
  case atStart => exact ⟨0, Nat.zero_le _, Nat.zero_le _, rfl, Lib.hid rfl, Lib.hid ⟨0, rfl⟩⟩
  case round =>
    obtain ⟨k, ka, kb, rfl, HL, HB⟩ := hrel
    by_cases h1 : k < a.size
    · have e1 : decide ((k : Int) < (a.size : Int)) = true := decide_eq_true (by omega)
      by_cases h2 : k < b.size
      · have e2 : decide ((k : Int) < (b.size : Int)) = true := decide_eq_true (by omega)
        have HS := Lib.hid (HL.out.trans (less_step (list_at h1) (list_at h2)))
        go_upto_region 4 with fail
        obtain ⟨x, hx⟩ : ∃ x, a[k]'h1 = x := ⟨_, rfl⟩
        obtain ⟨y, hy⟩ : ∃ y, b[k]'h2 = y := ⟨_, rfl⟩
        rw [hx, hy] at HS
        go_quiet (fail)
        have HBd := Lib.hid (show ∃ m, wr.drewN nq = w.drewN m from HB.out.elim fun m h => ⟨m + nq, by rw [h, World.drewN_drewN]⟩)
        generalize wr.drewN nq = w2 at HBd ⊢
        clear HL HB
        by_cases q1 : x.toNat < y.toNat
        · rw [if_pos q1] at HS
          go_wp2_with fail
          go_ret
          exact ⟨ret_int HS.out.symm, HBd.out⟩
        · rw [if_neg q1] at HS
          go_upto_region 6 with fail
          go_quiet (fail)
          have HBe := Lib.hid (show ∃ m, w2.drewN nq = w.drewN m from HBd.out.elim fun m h => ⟨m + nq, by rw [h, World.drewN_drewN]⟩)
          generalize w2.drewN nq = w3 at HBe ⊢
          by_cases q2 : y.toNat < x.toNat
          · rw [if_pos q2] at HS
            go_wp2_with fail
            go_ret
            exact ⟨ret_int HS.out.symm, HBe.out⟩
          · rw [if_neg q2] at HS
            go_wp2_with fail
            go_roundw
            case rel => exact ⟨k + 1, by omega, by omega, by simp, HS, HBe⟩
            case measure => simp [intOf]; omega
      · have e2 : decide ((k : Int) < (b.size : Int)) = false := decide_eq_false (by omega)
        have HE := Lib.hid (HL.out.trans (less_end (.inr (by rw [size_list]; omega)) (by rw [size_list]; omega) (by rw [size_list]; omega)))
        rw [size_list, size_list] at HE
        by_cases q1 : a.size < b.size
        · rw [if_pos q1] at HE
          go_wp2_with fail
          go_ret
          exact ⟨ret_int HE.out.symm, HB.out⟩
        · rw [if_neg q1] at HE
          by_cases q2 : b.size < a.size
          · rw [if_pos q2] at HE
            go_wp2_with fail
            go_ret
            exact ⟨ret_int HE.out.symm, HB.out⟩
          · rw [if_neg q2] at HE
            go_wp2_with fail
            go_ret
            exact ⟨ret_int HE.out.symm, HB.out⟩
    · have e1 : decide ((k : Int) < (a.size : Int)) = false := decide_eq_false (by omega)
      have HE := Lib.hid (HL.out.trans (less_end (.inl (by rw [size_list]; omega)) (by rw [size_list]; omega) (by rw [size_list]; omega)))
      rw [size_list, size_list] at HE
      by_cases q1 : a.size < b.size
      · rw [if_pos q1] at HE
        go_wp2_with fail
        go_ret
        exact ⟨ret_int HE.out.symm, HB.out⟩
      · rw [if_neg q1] at HE
        by_cases q2 : b.size < a.size
        · rw [if_pos q2] at HE
          go_wp2_with fail
          go_ret
          exact ⟨ret_int HE.out.symm, HB.out⟩
        · rw [if_neg q2] at HE
          go_wp2_with fail
          go_ret
          exact ⟨ret_int HE.out.symm, HB.out⟩
set_option maxRecDepth 100000 in
theorem rnumbers_any (a b : Int) (w : World) :
    Calls Tryd.prog 24 #[.int .i64 a, .int .i64 b] w fun e w' => e = .returned (.int .i64 (cmpI b a)) ∧ w = w' := by
  have HC := Lib.hid (show cmpI b a = if b < a then -1 else if a < b then 1 else 0 from rfl)
  go_enter Tryd.func24, Tryd.ntmps24
  by_cases h1 : b < a
  · rw [if_pos h1] at HC
    go_wp2
    go_ret
    exact ⟨ret_int HC.out.symm, rfl⟩
  · rw [if_neg h1] at HC
    by_cases h2 : a < b
    · rw [if_pos h2] at HC
      go_wp2
      go_ret
      exact ⟨ret_int HC.out.symm, rfl⟩
    · rw [if_neg h2] at HC
      go_wp2
      go_ret
      exact ⟨ret_int HC.out.symm, rfl⟩

def mkB (l : List UInt8) : ByteArray := ⟨l.toArray⟩
theorem mkB_list (l : List UInt8) : (mkB l).data.toList = l := by unfold mkB; simp
theorem ext_tail (s : ByteArray) (k : Nat) : s.extract k s.size = mkB (s.data.toList.drop k) := by
  apply ByteArray.ext
  unfold mkB
  rw [ByteArray.data_extract]
  apply Array.ext'
  simp
  exact List.take_of_length_le (by simp)
def ExtRel (a : ByteArray) (w : World) (v : Value) (wr : World) : Prop :=
  ∃ i : Int, v = .int .i64 i ∧ Hid (-1 ≤ i ∧ i < (a.size : Int) ∧ extL a.data.toList = extGo a.data.toList i.toNat) ∧ Hid (w = wr)
set_option maxRecDepth 100000 in
set_option maxHeartbeats 4000000 in
theorem rext_any (a : ByteArray) (w : World) (ha : a.size ≤ 1000000) :
    Calls Tryd.prog 14 #[.string a] w fun e w' => e = .returned (.string (mkB (extL a.data.toList))) ∧ w = w' := by
  go_enter Tryd.func14, Tryd.ntmps14
  go_wp2
  go_loopw [3] (ExtRel a w) (fun v _ => (intOf v).toNat)
  case atStart => exact ⟨(a.size : Int) - 1, rfl, Lib.hid ⟨by omega, by omega, by unfold extL; rw [size_list]; congr 1; omega⟩, Lib.hid rfl⟩
  case round =>
    obtain ⟨i, rfl, HI, HW⟩ := hrel
    obtain rfl := HW.out
    by_cases h0 : 0 < i
    · have e0 : decide ((0 : Int) < i) = true := decide_eq_true h0
      obtain ⟨k, rfl⟩ : ∃ k : Nat, i = (k : Int) := ⟨i.toNat, by omega⟩
      have hk : k < a.size := by have := HI.out; omega
      obtain ⟨x, hx⟩ : ∃ x, a[k]'hk = x := ⟨_, rfl⟩
      have HE := Lib.hid (show extL a.data.toList = if x.toNat = 46 then a.data.toList.drop k else extGo a.data.toList (k - 1) from by
        have := HI.out.2.2
        obtain ⟨m, rfl⟩ : ∃ m, k = m + 1 := ⟨k - 1, by omega⟩
        rw [this, Int.toNat_natCast, extGo, list_at hk, hx, Nat.add_sub_cancel]
        by_cases q : x.toNat = 46
        · rw [if_pos q, if_pos]
          exact congrArg some (UInt8.toNat_inj.1 q)
        · rw [if_neg q, if_neg]
          intro z
          exact q (by rw [Option.some.inj z]; rfl))
      clear HI
      by_cases q : x.toNat = 46
      · have d1 : ((x.toNat : Int) == 46) = true := beq_iff_eq.2 (by omega)
        rw [if_pos q] at HE
        have HT := Lib.hid (ext_tail a k)
        go_wp2_with fail
        go_ret
        exact ⟨by rw [HE.out, ← HT.out]; rfl, rfl⟩
      · have d1 : ((x.toNat : Int) == 46) = false := beq_eq_false_iff_ne.2 (by omega)
        rw [if_neg q] at HE
        go_wp2_with fail
        go_roundw
        case rel => exact ⟨(k : Int) - 1, by simp, Lib.hid ⟨by omega, by omega, by rw [HE.out]; congr 1; omega⟩, Lib.hid rfl⟩
        case measure => simp [intOf]; omega
    · have e0 : decide ((0 : Int) < i) = false := decide_eq_false h0
      have HE := Lib.hid (show mkB (extL a.data.toList) = ⟨#[]⟩ from by
        rw [HI.out.2.2, show i.toNat = 0 from by omega]
        rfl)
      go_wp2_with fail
      go_ret
      exact ⟨by rw [HE.out]; rfl, rfl⟩
end Go.Proofs.YteeddednonmglaaDoor
