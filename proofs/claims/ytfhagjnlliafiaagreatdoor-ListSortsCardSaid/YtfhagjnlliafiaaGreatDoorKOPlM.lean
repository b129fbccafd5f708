/-
  What the reference's Less, Ext and numbers return.
  Conditions: each fact's own.
-/
import Derived.Test.YtfhagjnlliafiaaGreatDoorKOBase
import Derived.Lib.Bytealg
import Derived.Lib.TrimByte
import Derived.Lib.LastIndexByte
set_option linter.unusedVariables false
set_option maxHeartbeats 4000000
set_option maxRecDepth 100000
namespace Go.Proofs.YtfhagjnlliafiaaGreatDoor.O
open Go.Proofs.YtfhagjnlliafiaaGreatDoor.B
open Go.RowKit
theorem drop_at {α : Type} {l : List α} {k : Nat} {b : α} (h : l[k]? = some b) : l.drop k = b :: l.drop (k + 1) := by
  obtain ⟨hk, rfl⟩ := List.getElem?_eq_some_iff.1 h
  exact (List.drop_eq_getElem_cons hk)
theorem less_step {A B : List UInt8} {k : Nat} {x y : UInt8} (hx : A[k]? = some x) (hy : B[k]? = some y) : lessL (A.drop k) (B.drop k) = if x.toNat < y.toNat then -1 else if y.toNat < x.toNat then 1 else lessL (A.drop (k + 1)) (B.drop (k + 1)) := by
  have hc : cmpB x y = if x.toNat < y.toNat then -1 else if y.toNat < x.toNat then 1 else 0 := by
    unfold cmpB cmpI
    simp only [Int.ofNat_lt]
  rw [drop_at hx, drop_at hy]
  show (if cmpB x y = 0 then _ else _) = _
  rw [hc]
  by_cases h1 : x.toNat < y.toNat
  · rw [if_pos h1, if_pos h1, if_neg (by decide)]
  · rw [if_neg h1, if_neg h1]
    by_cases h2 : y.toNat < x.toNat
    · rw [if_pos h2, if_pos h2, if_neg (by decide)]
    · rw [if_neg h2, if_neg h2, if_pos rfl]
      rfl
theorem less_end {A B : List UInt8} {k : Nat} (h : A.length ≤ k ∨ B.length ≤ k) (ha : k ≤ A.length) (hb : k ≤ B.length) : lessL (A.drop k) (B.drop k) = if A.length < B.length then -1 else if B.length < A.length then 1 else 0 := by
  rcases h with h | h
  · rw [List.drop_of_length_le h]
    by_cases q : A.length < B.length
    · rw [if_pos q]
      obtain ⟨y, hy⟩ : ∃ y, B[k]? = some y := ⟨_, List.getElem?_eq_getElem (by omega)⟩
      rw [drop_at hy]
      rfl
    · rw [if_neg q, if_neg (by omega), List.drop_of_length_le (by omega)]
      rfl
  · rw [List.drop_of_length_le h]
    by_cases q : B.length < A.length
    · rw [if_neg (by omega), if_pos q]
      obtain ⟨y, hy⟩ : ∃ y, A[k]? = some y := ⟨_, List.getElem?_eq_getElem (by omega)⟩
      rw [drop_at hy]
      rfl
    · rw [if_neg (by omega), if_neg q, List.drop_of_length_le (by omega)]
      rfl
def LessRel (a b : ByteArray) (w : World) (v : Value) (wr : World) : Prop :=
  ∃ k : Nat, k ≤ a.size ∧ k ≤ b.size ∧ v = .int .i64 (k : Int) ∧ Hid (lessL a.data.toList b.data.toList = lessL (a.data.toList.drop k) (b.data.toList.drop k)) ∧ Hid (∃ m, wr = w.drewN m)
theorem rless_any (a b : ByteArray) (w : World) (ha : a.size ≤ 1000000) (hb : b.size ≤ 1000000) :
    Calls Tryz.prog 100 #[.string a, .string b] w fun e w' => e = .returned (.int .i64 (lessL a.data.toList b.data.toList)) ∧ ∃ m, w' = w.drewN m := by
  go_enter Tryz.func100, Tryz.ntmps100
  go_wp2
  go_loopw [5] (LessRel a b w) (fun v _ => a.size - (intOf v).toNat)
  case atStart => exact ⟨0, Nat.zero_le _, Nat.zero_le _, rfl, Lib.hid rfl, Lib.hid ⟨0, rfl⟩⟩
  case round =>
    obtain ⟨k, ka, kb, rfl, HL, HB⟩ := hrel
    by_cases h1 : k < a.size
    · have e1 : decide ((k : Int) < (a.size : Int)) = true := decide_eq_true (by omega)
      by_cases h2 : k < b.size
      · have e2 : decide ((k : Int) < (b.size : Int)) = true := decide_eq_true (by omega)
        have HS := Lib.hid (HL.out.trans (less_step (list_at h1) (list_at h2)))
        go_upto_region 4 with fail
        obtain ⟨x, hx⟩ : ∃ x, a[k]'h1 = x := ⟨_, rfl⟩
        obtain ⟨y, hy⟩ : ∃ y, b[k]'h2 = y := ⟨_, rfl⟩
        rw [hx, hy] at HS
        go_quiet (fail)
        have HBd := Lib.hid (show ∃ m, wr.drewN nq = w.drewN m from HB.out.elim fun m h => ⟨m + nq, by rw [h, World.drewN_drewN]⟩)
        generalize wr.drewN nq = w2 at HBd ⊢
        clear HL HB
        by_cases q1 : x.toNat < y.toNat
        · rw [if_pos q1] at HS
          go_wp2_with fail
          go_ret
          exact ⟨ret_int HS.out.symm, HBd.out⟩
        · rw [if_neg q1] at HS
          go_upto_region 6 with fail
          go_quiet (fail)
          have HBe := Lib.hid (show ∃ m, w2.drewN nq = w.drewN m from HBd.out.elim fun m h => ⟨m + nq, by rw [h, World.drewN_drewN]⟩)
          generalize w2.drewN nq = w3 at HBe ⊢
          by_cases q2 : y.toNat < x.toNat
          · rw [if_pos q2] at HS
            go_wp2_with fail
            go_ret
            exact ⟨ret_int HS.out.symm, HBe.out⟩
          · rw [if_neg q2] at HS
            go_wp2_with fail
            go_roundw
            case rel => exact ⟨k + 1, by omega, by omega, by simp, HS, HBe⟩
            case measure => simp [intOf]; omega
      · have e2 : decide ((k : Int) < (b.size : Int)) = false := decide_eq_false (by omega)
        have HE := Lib.hid (HL.out.trans (less_end (.inr (by rw [size_list]; omega)) (by rw [size_list]; omega) (by rw [size_list]; omega)))
        rw [size_list, size_list] at HE
        by_cases q1 : a.size < b.size
        · rw [if_pos q1] at HE
          go_wp2_with fail
          go_ret
          exact ⟨ret_int HE.out.symm, HB.out⟩
        · rw [if_neg q1] at HE
          by_cases q2 : b.size < a.size
          · rw [if_pos q2] at HE
            go_wp2_with fail
            go_ret
            exact ⟨ret_int HE.out.symm, HB.out⟩
          · rw [if_neg q2] at HE
            go_wp2_with fail
            go_ret
            exact ⟨ret_int HE.out.symm, HB.out⟩
    · have e1 : decide ((k : Int) < (a.size : Int)) = false := decide_eq_false (by omega)
      have HE := Lib.hid (HL.out.trans (less_end (.inl (by rw [size_list]; omega)) (by rw [size_list]; omega) (by rw [size_list]; omega)))
      rw [size_list, size_list] at HE
      by_cases q1 : a.size < b.size
      · rw [if_pos q1] at HE
        go_wp2_with fail
        go_ret
        exact ⟨ret_int HE.out.symm, HB.out⟩
      · rw [if_neg q1] at HE
        by_cases q2 : b.size < a.size
        · rw [if_pos q2] at HE
          go_wp2_with fail
          go_ret
          exact ⟨ret_int HE.out.symm, HB.out⟩
        · rw [if_neg q2] at HE
          go_wp2_with fail
          go_ret
          exact ⟨ret_int HE.out.symm, HB.out⟩
theorem rnumbers_any (a b : Int) (w : World) :
    Calls Tryz.prog 99 #[.int .i64 a, .int .i64 b] w fun e w' => e = .returned (.int .i64 (cmpI b a)) ∧ w = w' := by
  have HC := Lib.hid (show cmpI b a = if b < a then -1 else if a < b then 1 else 0 from rfl)
  go_enter Tryz.func99, Tryz.ntmps99
  by_cases h1 : b < a
  · rw [if_pos h1] at HC
    go_wp2
    go_ret
    exact ⟨ret_int HC.out.symm, rfl⟩
  · rw [if_neg h1] at HC
    by_cases h2 : a < b
    · rw [if_pos h2] at HC
      go_wp2
      go_ret
      exact ⟨ret_int HC.out.symm, rfl⟩
    · rw [if_neg h2] at HC
      go_wp2
      go_ret
      exact ⟨ret_int HC.out.symm, rfl⟩
def mkB (l : List UInt8) : ByteArray := ⟨l.toArray⟩
theorem mkB_list (l : List UInt8) : (mkB l).data.toList = l := by unfold mkB; simp
theorem ext_tail (s : ByteArray) (k : Nat) : s.extract k s.size = mkB (s.data.toList.drop k) := by
  apply ByteArray.ext
  unfold mkB
  rw [ByteArray.data_extract]
  apply Array.ext'
  simp
  exact List.take_of_length_le (by simp)
def ExtRel (a : ByteArray) (w : World) (v : Value) (wr : World) : Prop :=
  ∃ i : Int, v = .int .i64 i ∧ Hid (-1 ≤ i ∧ i < (a.size : Int) ∧ extL a.data.toList = extGo a.data.toList i.toNat) ∧ Hid (w = wr)
theorem rext_any (a : ByteArray) (w : World) (ha : a.size ≤ 1000000) :
    Calls Tryz.prog 101 #[.string a] w fun e w' => e = .returned (.string (mkB (extL a.data.toList))) ∧ w = w' := by
  go_enter Tryz.func101, Tryz.ntmps101
  go_wp2
  go_loopw [3] (ExtRel a w) (fun v _ => (intOf v).toNat)
  case atStart => exact ⟨(a.size : Int) - 1, rfl, Lib.hid ⟨by omega, by omega, by unfold extL; rw [size_list]; congr 1; omega⟩, Lib.hid rfl⟩
  case round =>
    obtain ⟨i, rfl, HI, HW⟩ := hrel
    obtain rfl := HW.out
    by_cases h0 : 0 < i
    · have e0 : decide ((0 : Int) < i) = true := decide_eq_true h0
      obtain ⟨k, rfl⟩ : ∃ k : Nat, i = (k : Int) := ⟨i.toNat, by omega⟩
      have hk : k < a.size := by have := HI.out; omega
      obtain ⟨x, hx⟩ : ∃ x, a[k]'hk = x := ⟨_, rfl⟩
      have HE := Lib.hid (show extL a.data.toList = if x.toNat = 46 then a.data.toList.drop k else extGo a.data.toList (k - 1) from by
        have := HI.out.2.2
        obtain ⟨m, rfl⟩ : ∃ m, k = m + 1 := ⟨k - 1, by omega⟩
        rw [this, Int.toNat_natCast, extGo, list_at hk, hx, Nat.add_sub_cancel]
        by_cases q : x.toNat = 46
        · rw [if_pos q, if_pos]
          exact congrArg some (UInt8.toNat_inj.1 q)
        · rw [if_neg q, if_neg]
          intro z
          exact q (by rw [Option.some.inj z]; rfl))
      clear HI
      by_cases q : x.toNat = 46
      · have d1 : ((x.toNat : Int) == 46) = true := beq_iff_eq.2 (by omega)
        rw [if_pos q] at HE
        have HT := Lib.hid (ext_tail a k)
        go_wp2_with fail
        go_ret
        exact ⟨by rw [HE.out, ← HT.out]; rfl, rfl⟩
      · have d1 : ((x.toNat : Int) == 46) = false := beq_eq_false_iff_ne.2 (by omega)
        rw [if_neg q] at HE
        go_wp2_with fail
        go_roundw
        case rel => exact ⟨(k : Int) - 1, by simp, Lib.hid ⟨by omega, by omega, by rw [HE.out]; congr 1; omega⟩, Lib.hid rfl⟩
        case measure => simp [intOf]; omega
    · have e0 : decide ((0 : Int) < i) = false := decide_eq_false h0
      have HE := Lib.hid (show mkB (extL a.data.toList) = ⟨#[]⟩ from by
        rw [HI.out.2.2, show i.toNat = 0 from by omega]
        rfl)
      go_wp2_with fail
      go_ret
      exact ⟨by rw [HE.out]; rfl, rfl⟩
end Go.Proofs.YtfhagjnlliafiaaGreatDoor.O
namespace Go.Proofs.YtfhagjnlliafiaaGreatDoor.O
open Go.Proofs.YtfhagjnlliafiaaGreatDoor.B
open Go.RowKit
theorem toks_nil : toks [] = [] := rfl
theorem toks_cons (b : UInt8) (r : List UInt8) : toks (b :: r) = if digB b = true then numT ((b :: r).takeWhile digB) :: toks ((b :: r).dropWhile digB) else [126, b] :: toks r := by
  unfold toks
  rw [List.length_cons, tokGo]
  by_cases hb : digB b = true
  · rw [if_pos hb, if_pos hb]
    have hd : ((b :: r).dropWhile digB).length ≤ r.length := by
      rw [List.dropWhile_cons, if_pos hb]
      exact (List.dropWhile_sublist _).length_le
    rw [tokGo_more r.length ((b :: r).dropWhile digB).length _ hd (Nat.le_refl _)]
  · rw [if_neg hb, if_neg hb]
theorem span_take {p : UInt8 → Bool} : ∀ (D : List UInt8) (n : Nat), n ≤ D.length → (∀ j x, j < n → D[j]? = some x → p x = true) → (∀ x, D[n]? = some x → p x = false) → D.takeWhile p = D.take n ∧ D.dropWhile p = D.drop n
  | [], n, hn, _, _ => by
    have : n = 0 := by simpa using hn
    subst this
    exact ⟨rfl, rfl⟩
  | b :: r, 0, _, _, h2 => by
    have hb := h2 b rfl
    rw [List.takeWhile_cons, List.dropWhile_cons, hb]
    exact ⟨rfl, rfl⟩
  | b :: r, n + 1, hn, h1, h2 => by
    have hb := h1 0 b (by omega) rfl
    have ih := span_take r n (by simpa using hn) (fun j x hj hx => h1 (j + 1) x (by omega) (by simpa using hx)) (fun x hx => h2 x (by simpa using hx))
    rw [List.takeWhile_cons, List.dropWhile_cons, hb]
    exact ⟨by rw [if_pos rfl, ih.1]; rfl, by rw [if_pos rfl, ih.2]; rfl⟩
def seg (l : List UInt8) (a b : Nat) : List UInt8 := (l.drop a).take (b - a)
theorem seg_len {l : List UInt8} {a b : Nat} (hab : a ≤ b) (hb : b ≤ l.length) : (seg l a b).length = b - a := by
  unfold seg
  rw [List.length_take, List.length_drop]
  omega
theorem seg_at {l : List UInt8} {a b j : Nat} (hj : j < b - a) : (seg l a b)[j]? = l[a + j]? := by
  unfold seg
  rw [List.getElem?_take, if_pos hj, List.getElem?_drop]
theorem seg_drop {l : List UInt8} {a b c : Nat} (hab : a ≤ b) : (seg l a c).drop (b - a) = seg l b c := by
  unfold seg
  rw [List.drop_take, List.drop_drop]
  congr 1
  · omega
  · congr 1; omega
theorem ext_seg (s : ByteArray) (a b : Nat) (hab : a ≤ b) (hb : b ≤ s.size) : s.extract a b = mkB (seg s.data.toList a b) := by
  apply ByteArray.ext
  unfold mkB seg
  rw [ByteArray.data_extract]
  apply Array.ext'
  simp
theorem tok_num {l : List UInt8} {i z k : Nat} {b : UInt8} (hb : l[i]? = some b) (hd : digB b = true) (hiz : i ≤ z) (hzk : z ≤ k) (hk : k ≤ l.length) (h1 : ∀ j x, i ≤ j → j < k → l[j]? = some x → digB x = true) (h2 : ∀ x, l[k]? = some x → digB x = false)
    (h3 : ∀ j x, i ≤ j → j < z → l[j]? = some x → x = 48) (h4 : z < k → ∀ x, l[z]? = some x → x ≠ 48) :
    toks (l.drop i) = (33 :: UInt8.ofNat ((k - z) / 256) :: UInt8.ofNat ((k - z) % 256) :: seg l z k) :: toks (l.drop k) := by
  have hi : i < l.length := (List.getElem?_eq_some_iff.1 hb).1
  have hs := span_take (p := digB) (l.drop i) (k - i) (by rw [List.length_drop]; omega)
    (fun j x hj hx => h1 (i + j) x (by omega) (by omega) (by rwa [List.getElem?_drop] at hx))
    (fun x hx => h2 x (by rw [List.getElem?_drop] at hx; rwa [show i + (k - i) = k by omega] at hx))
  have hz := span_take (p := (· == 48)) (seg l i k) (z - i) (by rw [seg_len (by omega) hk]; omega)
    (fun j x hj hx => by
      rw [seg_at (by omega)] at hx
      exact beq_iff_eq.2 (h3 (i + j) x (by omega) (by omega) hx))
    (fun x hx => by
      have hlt : z - i < (seg l i k).length := (List.getElem?_eq_some_iff.1 hx).1
      rw [seg_len (by omega) hk] at hlt
      rw [seg_at (by omega), show i + (z - i) = z by omega] at hx
      exact beq_eq_false_iff_ne.2 (h4 (by omega) x hx))
  have e1 : (l.drop i).takeWhile digB = seg l i k := hs.1
  have e2 : (l.drop i).dropWhile digB = l.drop k := by rw [hs.2, List.drop_drop]; congr 1; omega
  have hc := drop_at hb
  have ht := toks_cons b (l.drop (i + 1))
  rw [← hc, if_pos hd, e1, e2] at ht
  rw [ht]
  unfold numT
  rw [hz.2, seg_drop hiz, seg_len hzk hk]
theorem tok_byte {l : List UInt8} {i : Nat} {b : UInt8} (hb : l[i]? = some b) (hd : digB b = false) : toks (l.drop i) = [126, b] :: toks (l.drop (i + 1)) := by
  rw [drop_at hb, toks_cons, if_neg (by rw [hd]; decide)]
theorem tokGo_len : ∀ (n : Nat) (l : List UInt8), (tokGo n l).length ≤ l.length ∧ ∀ t ∈ tokGo n l, t.length ≤ l.length + 3
  | 0, l => ⟨Nat.zero_le _, fun t h => by cases h⟩
  | n + 1, [] => ⟨Nat.le_refl _, fun t h => by cases h⟩
  | n + 1, b :: r => by
    rw [tokGo]
    by_cases hb : digB b = true
    · rw [if_pos hb]
      have hd : ((b :: r).dropWhile digB).length ≤ r.length := by
        rw [List.dropWhile_cons, if_pos hb]
        exact (List.dropWhile_sublist _).length_le
      obtain ⟨h1, h2⟩ := tokGo_len n ((b :: r).dropWhile digB)
      refine ⟨by rw [List.length_cons, List.length_cons]; omega, fun t ht => ?_⟩
      rcases List.mem_cons.1 ht with q | q
      · rw [q]
        unfold numT
        have h3 := (List.dropWhile_sublist (l := (b :: r).takeWhile digB) (· == 48)).length_le
        have h4 := (List.takeWhile_sublist (l := b :: r) digB).length_le
        simp only [List.length_cons] at h3 h4 ⊢
        omega
      · have := h2 t q
        rw [List.length_cons]
        omega
    · rw [if_neg hb]
      obtain ⟨h1, h2⟩ := tokGo_len n r
      refine ⟨by rw [List.length_cons, List.length_cons]; omega, fun t ht => ?_⟩
      rcases List.mem_cons.1 ht with q | q
      · rw [q]
        show 2 ≤ _
        omega
      · have := h2 t q
        rw [List.length_cons]
        omega
theorem toks_len (l : List UInt8) : (toks l).length ≤ l.length ∧ ∀ t ∈ toks l, t.length ≤ l.length + 3 := tokGo_len _ l
theorem lex_step {α : Type} {c : α → α → Int} {A B : List α} {k : Nat} {x y : α} (hx : A[k]? = some x) (hy : B[k]? = some y) : lexC c (A.drop k) (B.drop k) = if c x y = 0 then lexC c (A.drop (k + 1)) (B.drop (k + 1)) else c x y := by
  rw [drop_at hx, drop_at hy, lexC]
theorem lex_end {α : Type} {c : α → α → Int} {A B : List α} {k : Nat} (h : A.length ≤ k ∨ B.length ≤ k) (ha : k ≤ A.length) (hb : k ≤ B.length) : lexC c (A.drop k) (B.drop k) = if A.length < B.length then -1 else if B.length < A.length then 1 else 0 := by
  rcases h with h | h
  · rw [List.drop_of_length_le h]
    by_cases q : A.length < B.length
    · rw [if_pos q]
      obtain ⟨y, hy⟩ : ∃ y, B[k]? = some y := ⟨_, List.getElem?_eq_getElem (by omega)⟩
      rw [drop_at hy]
      rfl
    · rw [if_neg q, if_neg (by omega), List.drop_of_length_le (by omega)]
      rfl
  · rw [List.drop_of_length_le h]
    by_cases q : B.length < A.length
    · rw [if_neg (by omega), if_pos q]
      obtain ⟨y, hy⟩ : ∃ y, A[k]? = some y := ⟨_, List.getElem?_eq_getElem (by omega)⟩
      rw [drop_at hy]
      rfl
    · rw [if_neg (by omega), if_neg q, List.drop_of_length_le (by omega)]
      rfl
end Go.Proofs.YtfhagjnlliafiaaGreatDoor.O
namespace Go.Proofs.YtfhagjnlliafiaaGreatDoor.O
open Go.Proofs.YtfhagjnlliafiaaGreatDoor.B
open Go.RowKit
theorem cmpB_is (a b : UInt8) : cmpB a b = if a < b then -1 else if b < a then 1 else 0 := by
  unfold cmpB cmpI
  simp only [UInt8.lt_iff_toNat_lt, Int.ofNat_lt]
theorem less_cons (a b : UInt8) (x y : List UInt8) : lessL (a :: x) (b :: y) = if cmpB a b = 0 then lessL x y else cmpB a b := rfl
theorem compare_less : ∀ a b : List UInt8, Lib.compareBytes a b = lessL a b
  | [], [] => rfl
  | [], _ :: _ => rfl
  | _ :: _, [] => rfl
  | a :: x, b :: y => by
    rw [Lib.compareBytes, compare_less x y, less_cons, cmpB_is]
    by_cases h1 : a < b
    · rw [if_pos h1, if_pos h1, if_neg (by decide)]
    · rw [if_neg h1, if_neg h1]
      by_cases h2 : b < a
      · rw [if_pos h2, if_pos h2, if_neg (by decide)]
      · rw [if_neg h2, if_neg h2, if_pos rfl]
theorem ext_last (s : ByteArray) : extL s.data.toList = if Lib.lastIndexByte s 46 < 1 then [] else s.data.toList.drop (Lib.lastIndexByte s 46).toNat := by
  have key : ∀ n, n < s.size → extGo s.data.toList n = if Lib.lastIdx s 46 (n + 1) < 1 then [] else s.data.toList.drop (Lib.lastIdx s 46 (n + 1)).toNat := by
    intro n
    induction n with
    | zero =>
      intro h
      rw [if_pos, extGo]
      unfold Lib.lastIdx
      split
      · decide
      · show (-1 : Int) < 1; decide
    | succ n ih =>
      intro h
      have h' : n + 1 < s.data.size := h
      have hx : s.data[n + 1]! = s[n + 1]'h := by
        rw [getElem!_pos s.data (n + 1) h']
        rfl
      rw [extGo, list_at h]
      by_cases q : ((s.data[n + 1]!).toNat : Int) = 46
      · rw [Lib.lastIdx_hit s 46 (n + 1) q, if_neg (show ¬ ((n + 1 : Nat) : Int) < 1 by omega), Int.toNat_natCast, if_pos]
        rw [hx] at q
        have q' : (s[n + 1]'h).toNat = 46 := by omega
        exact congrArg some (UInt8.toNat_inj.1 q')
      · rw [Lib.lastIdx_miss s 46 (n + 1) q, if_neg, ih (by omega)]
        intro z
        rw [hx] at q
        rw [Option.some.inj z] at q
        exact q rfl
  unfold extL Lib.lastIndexByte
  rw [size_list]
  by_cases h0 : s.size = 0
  · rw [h0]
    rfl
  · rw [key _ (by omega), show s.size - 1 + 1 = s.size from by omega]
def noughts (d : List UInt8) : List UInt8 := d.dropWhile (· == 48)
theorem noughts_le (d : List UInt8) : (noughts d).length ≤ d.length := (List.dropWhile_sublist _).length_le
def numC (d e : List UInt8) : Int := if cmpI (noughts d).length (noughts e).length = 0 then lessL (noughts d) (noughts e) else cmpI (noughts d).length (noughts e).length
theorem cmpB_of (m n : Nat) (hm : m < 256) (hn : n < 256) : cmpB (UInt8.ofNat m) (UInt8.ofNat n) = cmpI m n := by
  unfold cmpB
  rw [UInt8.toNat_ofNat_of_lt' (by simpa using hm), UInt8.toNat_ofNat_of_lt' (by simpa using hn)]
theorem num_less (d e : List UInt8) (hd : d.length < 65536) (he : e.length < 65536) : lessL (numT d) (numT e) = numC d e := by
  have l1 := noughts_le d
  have l2 := noughts_le e
  unfold numT numC
  change lessL (33 :: UInt8.ofNat ((noughts d).length / 256) :: UInt8.ofNat ((noughts d).length % 256) :: noughts d) (33 :: UInt8.ofNat ((noughts e).length / 256) :: UInt8.ofNat ((noughts e).length % 256) :: noughts e) = _
  generalize noughts d = D at l1 ⊢
  generalize noughts e = E at l2 ⊢
  rw [less_cons, if_pos (by decide), less_cons, less_cons, cmpB_of _ _ (by omega) (by omega), cmpB_of _ _ (by omega) (by omega)]
  generalize D.length = m at l1 ⊢
  generalize E.length = n at l2 ⊢
  have c : ∀ a b : Nat, cmpI a b = if a < b then -1 else if b < a then 1 else 0 := fun a b => by unfold cmpI; simp only [Int.ofNat_lt]
  rw [c, c, c]
  by_cases h1 : m / 256 < n / 256
  · rw [if_pos h1, if_neg (by decide), if_pos (show m < n by omega), if_neg (by decide)]
  · rw [if_neg h1]
    by_cases h2 : n / 256 < m / 256
    · rw [if_pos h2, if_neg (by decide), if_neg (show ¬ m < n by omega), if_pos (show n < m by omega), if_neg (by decide)]
    · rw [if_neg h2, if_pos rfl]
      by_cases h3 : m % 256 < n % 256
      · rw [if_pos h3, if_neg (by decide), if_pos (show m < n by omega), if_neg (by decide)]
      · rw [if_neg h3]
        by_cases h4 : n % 256 < m % 256
        · rw [if_pos h4, if_neg (by decide), if_neg (show ¬ m < n by omega), if_pos (show n < m by omega), if_neg (by decide)]
        · rw [if_neg h4, if_pos rfl, if_neg (show ¬ m < n by omega), if_neg (show ¬ n < m by omega), if_pos rfl]
def tokC : List UInt8 → List UInt8 → Int
  | x :: A, y :: B => if digB x = true then (if digB y = true then numC (x :: A) (y :: B) else -1) else if digB y = true then 1 else cmpB x y
  | _, _ => 0
def tkN (l : List UInt8) : Nat := (l.takeWhile digB).length
def tkK (l : List UInt8) : Nat := max (tkN l) 1
def tkT : List UInt8 → List UInt8
  | [] => []
  | b :: r => if digB b = true then numT ((b :: r).takeWhile digB) else [126, b]
theorem tkN_le (l : List UInt8) : tkN l ≤ l.length := (List.takeWhile_sublist _).length_le
theorem take_tk (l : List UInt8) : l.take (tkN l) = l.takeWhile digB ∧ l.drop (tkN l) = l.dropWhile digB := by
  unfold tkN
  have h := List.takeWhile_append_dropWhile (p := digB) (l := l)
  constructor
  · conv => lhs; rw [← h]
    rw [h]
    conv => lhs; arg 2; rw [← h]
    exact List.take_left
  · conv => lhs; arg 2; rw [← h]
    exact List.drop_left
theorem toks_first (b : UInt8) (r : List UInt8) : toks (b :: r) = tkT (b :: r) :: toks ((b :: r).drop (tkK (b :: r))) := by
  rw [toks_cons, tkT]
  obtain ⟨t1, t2⟩ := take_tk (b :: r)
  by_cases hb : digB b = true
  · have hk : tkK (b :: r) = tkN (b :: r) := by
      unfold tkK tkN
      rw [List.takeWhile_cons, if_pos hb, List.length_cons]
      omega
    rw [if_pos hb, if_pos hb, hk, t2]
  · have hk : tkK (b :: r) = 1 := by
      unfold tkK tkN
      rw [List.takeWhile_cons, if_neg hb]
      rfl
    rw [if_neg hb, if_neg hb, hk]
    rfl
theorem tok_less (a : UInt8) (x : List UInt8) (b : UInt8) (y : List UInt8) (ha : (a :: x).length < 65536) (hb : (b :: y).length < 65536) : tokC ((a :: x).take (tkK (a :: x))) ((b :: y).take (tkK (b :: y))) = lessL (tkT (a :: x)) (tkT (b :: y)) := by
  have one : ∀ (a : UInt8) (x : List UInt8), digB a = true → (a :: x).take (tkK (a :: x)) = (a :: x).takeWhile digB ∧ ∃ r, (a :: x).takeWhile digB = a :: r := fun a x h => by
    have hk : tkK (a :: x) = tkN (a :: x) := by
      unfold tkK tkN
      rw [List.takeWhile_cons, if_pos h, List.length_cons]
      omega
    exact ⟨by rw [hk, (take_tk _).1], _, by rw [List.takeWhile_cons, if_pos h]⟩
  have two : ∀ (a : UInt8) (x : List UInt8), ¬ digB a = true → (a :: x).take (tkK (a :: x)) = [a] := fun a x h => by
    have hk : tkK (a :: x) = 1 := by
      unfold tkK tkN
      rw [List.takeWhile_cons, if_neg h]
      rfl
    rw [hk]
    rfl
  rw [tkT, tkT]
  by_cases ha1 : digB a = true
  · obtain ⟨e1, r1, e2⟩ := one a x ha1
    rw [if_pos ha1, e1]
    by_cases hb1 : digB b = true
    · obtain ⟨f1, r2, f2⟩ := one b y hb1
      rw [if_pos hb1, f1]
      have l1 := (List.takeWhile_sublist (l := a :: x) digB).length_le
      have l2 := (List.takeWhile_sublist (l := b :: y) digB).length_le
      rw [num_less _ _ (by omega) (by omega)]
      rw [e2, f2, tokC, if_pos ha1, if_pos hb1]
    · rw [if_neg hb1, two b y hb1, e2, tokC, if_pos ha1, if_neg hb1]
      unfold numT
      rw [less_cons, if_neg (by decide)]
      decide
  · rw [if_neg ha1, two a x ha1]
    by_cases hb1 : digB b = true
    · obtain ⟨f1, r2, f2⟩ := one b y hb1
      rw [if_pos hb1, f1, f2, tokC, if_neg ha1, if_pos hb1]
      unfold numT
      rw [less_cons, if_neg (by decide)]
      decide
    · rw [if_neg hb1, two b y hb1, tokC, if_neg ha1, if_neg hb1, less_cons, if_pos (by decide), less_cons]
      split
      · rename_i q
        rw [q]
        rfl
      · rfl
theorem ver_step (a : UInt8) (x : List UInt8) (b : UInt8) (y : List UInt8) (ha : (a :: x).length < 65536) (hb : (b :: y).length < 65536) : verL (a :: x) (b :: y) = if tokC ((a :: x).take (tkK (a :: x))) ((b :: y).take (tkK (b :: y))) = 0 then verL ((a :: x).drop (tkK (a :: x))) ((b :: y).drop (tkK (b :: y))) else tokC ((a :: x).take (tkK (a :: x))) ((b :: y).take (tkK (b :: y))) := by
  rw [tok_less a x b y ha hb]
  unfold verL
  rw [toks_first, toks_first, lexC]
theorem ver_end {x y : List UInt8} (h : x = [] ∨ y = []) : verL x y = cmpI x.length y.length := by
  cases x with
  | nil =>
    cases y with
    | nil => rfl
    | cons b y =>
      unfold verL
      rw [toks_first b y, toks_nil]
      show (-1 : Int) = _
      unfold cmpI
      rw [if_pos (by simp)]
  | cons a x =>
    have : y = [] := by rcases h with h | h; cases h; exact h
    subst this
    unfold verL
    rw [toks_first a x, toks_nil]
    show (1 : Int) = _
    unfold cmpI
    rw [if_neg (by simp; omega), if_pos (by simp)]
end Go.Proofs.YtfhagjnlliafiaaGreatDoor.O
