/-
  What quote.run, hasHard and allPlain return. Conditions: the text has at most 1000000 bytes; the library's tables lie.
  What quote.hasHard and allPlain return. Conditions: the text has at most 1000000 bytes; the library's tables lie.
  What quote.between and bare return. Conditions: the text has at most 1000000 bytes; the library's tables lie.
  A strings.Builder that a call has made itself: what WriteByte, WriteString and String do. Conditions: at most 1000000000 bytes.
  What quote.backslashed returns. Conditions: the text has at most 1000000 bytes; the library's tables lie.
  Plain facts on a text's stretches. Conditions: none.
-/
import Derived.Test.YtigkdehaepenhaaGreatDoorKQFirst
set_option linter.unusedVariables false
namespace Go.Proofs.YtigkdehaepenhaaGreatDoor.Q
open Go.RowKit

def intOf : Value → Int | .int _ q => q | _ => 0
def textOf : Value → ByteArray | .string s => s | _ => ⟨#[]⟩
theorem ret_int {k : IntKind} {a b : Int} (h : a = b) : Ending.returned (.int k a) = .returned (.int k b) := by rw [h]
theorem ret_bool {a b : Bool} (h : a = b) : Ending.returned (.bool a) = .returned (.bool b) := by rw [h]
theorem ret_str {a b : ByteArray} (h : a = b) : Ending.returned (.string a) = .returned (.string b) := by rw [h]

/-- How long the stretch is with which a text begins. -/
def runP (h : Bool) (l : Bytes) : Nat := ((chunks l).takeWhile (fun c => hardC c == h)).flatten.length
theorem runP_nil (h : Bool) : runP h [] = 0 := by unfold runP; rw [chunks_nil]; rfl
theorem runP_stop {h : Bool} {l : Bytes} (hl : l ≠ []) (hc : hardC (l.take (sz l)) ≠ h) : runP h l = 0 := by
  unfold runP
  rw [chunks_step l hl]
  have : (hardC (l.take (sz l)) == h) = false := beq_eq_false_iff_ne.2 hc
  simp [List.takeWhile, this]
theorem runP_step {h : Bool} {l : Bytes} (hl : l ≠ []) (hc : hardC (l.take (sz l)) = h) : runP h l = sz l + runP h (l.drop (sz l)) := by
  unfold runP
  rw [chunks_step l hl]
  have : (hardC (l.take (sz l)) == h) = true := by rw [hc]; exact beq_self_eq_true h
  have h2 := sz_le l hl
  simp only [List.takeWhile, this, List.flatten_cons, List.length_append, List.length_take]
  omega
theorem drop_ne {l : Bytes} {p : Nat} (h : p < l.length) : l.drop p ≠ [] := by
  intro e
  have := congrArg List.length e
  simp at this
  omega
theorem first_at (s : ByteArray) (p K k : Nat) (w : World) (hT : Tab w) (h : p < s.size) (hK : sz ((L s).drop p) = K) (hk : kc (((L s).drop p).take K) = k) :
    Calls Tryz.prog 144 #[.string (s.extract p s.size)] w fun e w' => e = .returned (.tuple #[.int .i64 (k : Int), .int .i64 (K : Int)]) ∧ Below w.heap.size w w' := by
  have h1 : L (s.extract p s.size) ≠ [] := by rw [L_from]; exact drop_ne (by rw [L_len]; exact h)
  refine (first_any (s.extract p s.size) w hT h1).mono ?_
  rintro e w' ⟨rfl, hb⟩
  rw [L_from, hK, hk]
  exact ⟨rfl, hb⟩
theorem first_of (s : ByteArray) (K k : Nat) (w : World) (hT : Tab w) (h : L s ≠ []) (hK : sz (L s) = K) (hk : kc ((L s).take K) = k) :
    Calls Tryz.prog 144 #[.string s] w fun e w' => e = .returned (.tuple #[.int .i64 (k : Int), .int .i64 (K : Int)]) ∧ Below w.heap.size w w' := by
  refine (first_any s w hT h).mono ?_
  rintro e w' ⟨rfl, hb⟩
  rw [hK, hk]
  exact ⟨rfl, hb⟩

def RunRel (s : ByteArray) (h : Bool) (w : World) (v : Value) (w' : World) : Prop := ∃ p : Nat, p ≤ s.size ∧ v = .int .i64 (p : Int) ∧ p + runP h ((L s).drop p) = runP h (L s) ∧ Below w.heap.size w w'

set_option maxHeartbeats 1000000 in
set_option maxRecDepth 100000 in
theorem run_any (s : ByteArray) (h : Bool) (w : World) (hT : Tab w) (hs : s.size ≤ 1000000) :
    Calls Tryz.prog 141 #[.string s, .bool h] w fun e w' => e = .returned (.int .i64 ((runP h (L s) : Nat) : Int)) ∧ Below w.heap.size w w' := by
  go_enter Tryz.func141, Tryz.ntmps141
  go_wp2
  go_loopw [5] (RunRel s h w) (fun i _ => s.size - (intOf i).toNat)
  case atStart => exact ⟨0, Nat.zero_le _, rfl, by rw [List.drop_zero, Nat.zero_add], Below.refl _ _⟩
  case round =>
    obtain ⟨p, hp, rfl, hr, hb⟩ := hrel
    have HB := Lib.hid hb
    have HR := Lib.hid hr
    clear hb hr
    by_cases hlt : p < s.size
    · have hne := Lib.hid (drop_ne (l := L s) (p := p) (by rw [L_len]; exact hlt))
      obtain ⟨K, hK⟩ : ∃ K, sz ((L s).drop p) = K := ⟨_, rfl⟩
      obtain ⟨k, hk⟩ : ∃ k, kc (((L s).drop p).take K) = k := ⟨_, rfl⟩
      have cF := first_at s p K k wr (hT.keep HB.out) hlt hK hk
      have hbd : 1 ≤ K ∧ K ≤ 4 := by rw [← hK]; exact sz_bd _
      have hle : p + K ≤ s.size := by
        have h1 := sz_le _ hne.out
        rw [hK, List.length_drop, L_len] at h1
        omega
      have HK := Lib.hid hK
      have HH : Hid (hardC (((L s).drop p).take K) = (((k : Nat) : Int) == 1)) := Lib.hid (by
        unfold hardC
        rw [hk]
        by_cases h1 : k = 1
        · subst h1; rfl
        · rw [beq_eq_false_iff_ne.2 h1, beq_eq_false_iff_ne.2 (by omega)])
      clear hK hk
      go_wp2_with fail
      refine cF.mono ?_
      rintro e w2 ⟨rfl, hb2⟩
      have HB2 := Lib.hid (below_two HB.out hb2)
      clear hb2
      by_cases hq : (((k : Nat) : Int) == 1) = h
      · subst hq
        go_wp2_with fail
        all_goals try (exfalso; simp_all; done)
        go_roundw
        case rel =>
          refine ⟨p + K, hle, by go_num, ?_, HB2.out⟩
          rw [← HR.out, runP_step hne.out (by rw [HK.out]; exact HH.out), HK.out, List.drop_drop]
          omega
        case measure => simp [intOf]; omega
      · have hq2 : ((((k : Nat) : Int) == 1) != h) = true := by simp [bne, hq]
        go_wp2_with fail
        all_goals try (exfalso; simp_all; done)
        go_ret
        refine ⟨ret_int ?_, HB2.out⟩
        have h0 := runP_stop (h := h) hne.out (by rw [HK.out, HH.out]; exact hq)
        have := HR.out
        rw [h0] at this
        omega
    · go_wp2
      go_ret
      refine ⟨ret_int ?_, HB.out⟩
      have h0 : (L s).drop p = [] := List.drop_eq_nil_of_le (by rw [L_len]; omega)
      have := HR.out
      rw [h0, runP_nil] at this
      omega
end Go.Proofs.YtigkdehaepenhaaGreatDoor.Q

namespace Go.Proofs.YtigkdehaepenhaaGreatDoor.Q
open Go.RowKit

theorem flat_pos {cs : List Bytes} (hc : ∀ c ∈ cs, Chr c) (h : cs ≠ []) : 0 < cs.flatten.length := by
  cases cs with
  | nil => exact absurd rfl h
  | cons c r =>
    have := (hc c (by simp)).ne
    rw [List.flatten_cons, List.length_append]
    have := List.length_pos_iff.2 this
    omega
theorem run_split (h : Bool) (l : Bytes) : l = ((chunks l).takeWhile (fun c => hardC c == h)).flatten ++ ((chunks l).dropWhile (fun c => hardC c == h)).flatten := by
  conv => lhs; rw [← chunks_flat l, ← List.takeWhile_append_dropWhile (p := fun c => hardC c == h) (l := chunks l)]
  rw [List.flatten_append]
theorem any_iff (cs : List Bytes) : (cs.any hardC = true) ↔ cs.dropWhile (fun c => hardC c == false) ≠ [] := by
  induction cs with
  | nil => simp
  | cons c r ih =>
    cases hc : hardC c with
    | true => simp [List.dropWhile, hc]
    | false =>
      simp only [List.any_cons, hc, Bool.false_or, List.dropWhile, beq_self_eq_true]
      exact ih
theorem hasHard_iff (l : Bytes) : hasHard l = decide (runP false l < l.length) := by
  have h1 := run_split false l
  have h2 : l.length = runP false l + ((chunks l).dropWhile (fun c => hardC c == false)).flatten.length := by
    conv => lhs; rw [h1, List.length_append]
    rfl
  have h3 := any_iff (chunks l)
  unfold hasHard
  by_cases h : (chunks l).dropWhile (fun c => hardC c == false) = []
  · rw [h] at h2
    simp only [List.flatten_nil, List.length_nil] at h2
    rw [decide_eq_false (by omega)]
    cases hb : (chunks l).any hardC with
    | false => rfl
    | true => exact absurd h (h3.1 hb)
  · have h4 := flat_pos (fun c hc => chunks_chr l c ((List.dropWhile_sublist _).subset hc)) h
    rw [decide_eq_true (by omega)]
    exact h3.2 h
theorem allPlain_nil : allPlain [] = true := by unfold allPlain; rw [chunks_nil]; rfl
theorem allPlain_step {l : Bytes} (h : l ≠ []) : allPlain l = ((kc (l.take (sz l)) == 0) && allPlain (l.drop (sz l))) := by
  unfold allPlain
  rw [chunks_step l h]
  rfl
theorem empty_true {s : ByteArray} (h : L s = []) : s.toList.isEmpty = true := by rw [toList_L, h]; rfl
theorem empty_false {s : ByteArray} (h : L s ≠ []) : s.toList.isEmpty = false := by
  rw [toList_L]
  cases hl : L s with
  | nil => exact absurd hl h
  | cons _ _ => rfl

set_option maxHeartbeats 1000000 in
theorem hasHard_any (s : ByteArray) (w : World) (hT : Tab w) (hs : s.size ≤ 1000000) :
    Calls Tryz.prog 127 #[.string s] w fun e w' => e = .returned (.bool (hasHard (L s))) ∧ Below w.heap.size w w' := by
  have cR := run_any s false w hT hs
  have HH := Lib.hid (hasHard_iff (L s))
  generalize runP false (L s) = n at *
  go_enter Tryz.func127, Tryz.ntmps127
  go_wp2_with fail
  refine cR.mono ?_
  rintro e w2 ⟨rfl, hb⟩
  go_wp2_with fail
  go_ret
  refine ⟨ret_bool ?_, hb⟩
  rw [HH.out, L_len]
  first | done | exact decide_eq_decide.2 (by omega)

def PlainRel (s : ByteArray) (w : World) (v : Value) (w' : World) : Prop := ∃ t : ByteArray, v = .string t ∧ t.size ≤ s.size ∧ allPlain (L t) = allPlain (L s) ∧ Below w.heap.size w w'

set_option maxHeartbeats 1000000 in
set_option maxRecDepth 100000 in
theorem allPlain_any (s : ByteArray) (w : World) (hT : Tab w) (hs : s.size ≤ 1000000) :
    Calls Tryz.prog 139 #[.string s] w fun e w' => e = .returned (.bool (allPlain (L s))) ∧ Below w.heap.size w w' := by
  go_enter Tryz.func139, Tryz.ntmps139
  go_wp2
  go_loopw [0] (PlainRel s w) (fun v _ => (textOf v).size)
  case atStart => exact ⟨s, rfl, Nat.le_refl _, rfl, Below.refl _ _⟩
  case round =>
    obtain ⟨t, rfl, hts, hr, hb⟩ := hrel
    have HB := Lib.hid hb
    have HR := Lib.hid hr
    clear hb hr
    by_cases hne : L t = []
    · have he := empty_true hne
      go_wp2
      go_ret
      refine ⟨ret_bool ?_, HB.out⟩
      rw [← HR.out, hne, allPlain_nil]
    · have he := empty_false hne
      have HN := Lib.hid hne
      obtain ⟨K, hK⟩ : ∃ K, sz (L t) = K := ⟨_, rfl⟩
      obtain ⟨k, hk⟩ : ∃ k, kc ((L t).take K) = k := ⟨_, rfl⟩
      have cF := first_of t K k wr (hT.keep HB.out) hne hK hk
      have hbd : 1 ≤ K ∧ K ≤ 4 := by rw [← hK]; exact sz_bd _
      have hle : K ≤ t.size := by
        have h1 := sz_le _ hne
        rw [hK, L_len] at h1
        omega
      have HP : Hid (allPlain (L t) = ((k == 0) && allPlain ((L t).drop K))) := Lib.hid (by rw [allPlain_step hne, hK, hk])
      clear hK hk hne
      go_wp2_with fail
      refine cF.mono ?_
      rintro e w2 ⟨rfl, hb2⟩
      have HB2 := Lib.hid (below_two HB.out hb2)
      clear hb2
      by_cases hq : k = 0
      · subst hq
        go_wp2_with fail
        go_roundw
        case rel =>
          refine ⟨t.extract K t.size, rfl, ?_, ?_, HB2.out⟩
          · rw [← L_len, L_from, List.length_drop, L_len]; omega
          · rw [← HR.out, HP.out, L_from]; rfl
        case measure =>
          show (t.extract K t.size).size < t.size
          rw [← L_len, L_from, List.length_drop, L_len]; omega
      · have hq2 : (((k : Nat) : Int) == 0) = false := beq_eq_false_iff_ne.2 (by omega)
        go_wp2_with fail
        go_ret
        refine ⟨ret_bool ?_, HB2.out⟩
        rw [← HR.out, HP.out, beq_eq_false_iff_ne.2 hq]
        rfl
end Go.Proofs.YtigkdehaepenhaaGreatDoor.Q

namespace Go.Proofs.YtigkdehaepenhaaGreatDoor.Q
open Go.RowKit

/-- The text of bytes. -/
def T (l : Bytes) : ByteArray := ⟨l.toArray⟩
theorem L_T (l : Bytes) : L (T l) = l := rfl
theorem T_L (s : ByteArray) : T (L s) = s := L_eta s
theorem T_size (l : Bytes) : (T l).size = l.length := by rw [← L_len]; rfl
theorem L_add (a b : ByteArray) : L (a ++ b) = L a ++ L b := by
  show (a ++ b).data.toList = _
  rw [ByteArray.data_append, Array.toList_append]
theorem T_add (a b : Bytes) : T a ++ T b = T (a ++ b) := L_ext (by rw [L_add]; rfl)

theorem idx_split : ∀ (l : Bytes) (c : UInt8) (i : Nat), Lib.indexByte l c = (i : Int) → i < l.length ∧ c ∉ l.take i ∧ l.drop i = c :: l.drop (i + 1)
  | [], c, i, h => by simp only [Lib.indexByte] at h; omega
  | b :: l, c, i, h => by
    simp only [Lib.indexByte] at h
    by_cases hb : b = c
    · subst hb
      rw [if_pos (beq_self_eq_true b)] at h
      obtain rfl : i = 0 := by omega
      exact ⟨by simp, by simp, rfl⟩
    · have h1 : ¬ (b == c) = true := by simp [hb]
      rw [if_neg h1] at h
      by_cases h2 : (Lib.indexByte l c == -1) = true
      · rw [if_pos h2] at h; omega
      · rw [if_neg h2] at h
        obtain ⟨j, rfl⟩ : ∃ j, i = j + 1 := ⟨i - 1, by
          have := (idx_bd l c).1
          have : Lib.indexByte l c ≠ -1 := fun e => h2 (by rw [e]; rfl)
          omega⟩
        obtain ⟨p1, p2, p3⟩ := idx_split l c j (by omega)
        refine ⟨by simp; omega, ?_, ?_⟩
        · rw [List.take_succ_cons, List.mem_cons, not_or]
          exact ⟨Ne.symm hb, p2⟩
        · rw [List.drop_succ_cons, List.drop_succ_cons]; exact p3
theorem idx_none {l : Bytes} {c : UInt8} (h : Lib.indexByte l c < 0) : c ∉ l := (idx_neg l c).1 (by have := (idx_bd l c).1; omega)
theorem qb_none : ∀ {l : Bytes}, (39 : UInt8) ∉ l → l.flatMap qb = l
  | [], _ => rfl
  | b :: l, h => by
    rw [List.mem_cons, not_or] at h
    rw [List.flatMap_cons, qb_none h.2]
    unfold qb
    rw [if_neg (Ne.symm h.1)]
    rfl
theorem rep_all (l : Bytes) : Lib.replaceK [39] [39, 92, 39, 39] (Lib.count l [39]) l = l.flatMap qb := by
  obtain ⟨n, hn⟩ : ∃ n, l.length = n := ⟨_, rfl⟩
  induction n using Nat.strongRecOn generalizing l with
  | _ n ih =>
    by_cases h : Lib.indexByte l 39 < 0
    · have h1 : Lib.index l [39] = -1 := by rw [Lib.index_one]; have := (idx_bd l 39).1; omega
      rw [Lib.count_miss h1]
      rw [qb_none (idx_none h)]
      rfl
    · obtain ⟨i, hi⟩ : ∃ i : Nat, Lib.indexByte l 39 = i := ⟨(Lib.indexByte l 39).toNat, by omega⟩
      have h1 : Lib.index l [39] = (i : Int) := by rw [Lib.index_one, hi]
      obtain ⟨p1, p2, p3⟩ := idx_split l 39 i hi
      rw [Lib.count_hit (by simp) h1, Nat.add_comm, Lib.replaceK_hit _ _ _ _ i h1]
      simp only [List.length_cons, List.length_nil, Nat.zero_add]
      rw [ih _ (by rw [List.length_drop]; omega) _ rfl]
      conv => rhs; rw [← List.take_append_drop i l, p3, List.flatMap_append, List.flatMap_cons, qb_none p2]
      simp [qb]
theorem replaceAll_qb (l : Bytes) : Lib.replaceAll l [39] [39, 92, 39, 39] = l.flatMap qb := by
  unfold Lib.replaceAll Lib.replace Lib.replaceNum
  have : (([39] : List UInt8) == [39, 92, 39, 39]) = false := by decide
  rw [this, if_neg (by decide), if_pos (Or.inl (by decide)), rep_all]
theorem qb_len (l : Bytes) : (l.flatMap qb).length ≤ 4 * l.length := by
  induction l with
  | nil => simp
  | cons b l ih =>
    rw [List.flatMap_cons, List.length_append, List.length_cons]
    have : (qb b).length ≤ 4 := by unfold qb; split <;> simp
    omega
theorem bt_len (l : Bytes) : (bt l).length ≤ 4 * l.length + 2 := by
  have := qb_len l
  unfold bt
  simp only [List.length_cons, List.length_append, List.length_nil]
  omega

set_option maxHeartbeats 1000000 in
set_option maxRecDepth 100000 in
theorem between_any (s : ByteArray) (w : World) (hT : Tab w) (hs : s.size ≤ 1000000) :
    Calls Tryz.prog 126 #[.string s] w fun e w' => e = .returned (.string (T (bt (L s)))) ∧ Below w.heap.size w w' := by
  obtain ⟨_, m, hm⟩ := hT
  have hcount := Lib.countB_mul_le ⟨#[39]⟩ (by decide) s.size s (Nat.le_refl _)
  have h39 : (ByteArray.mk #[39]).size = 1 := rfl
  have h4 : (ByteArray.mk #[39, 92, 39, 39]).size = 4 := rfl
  have cR : Calls Tryz.prog 140 #[.string s, .string ⟨#[39]⟩, .string ⟨#[39, 92, 39, 39]⟩] w fun e w' => e = .returned (.string (T ((L s).flatMap qb))) ∧ Below w.heap.size w w' := by
    refine (Tryz.strings_ReplaceAll s ⟨#[39]⟩ ⟨#[39, 92, 39, 39]⟩ m w (by omega) hm (by decide) (by rw [h39] at hcount; rw [h4]; omega)).mono ?_
    rintro e w' ⟨rfl, hb⟩
    refine ⟨ret_str ?_, hb⟩
    exact L_ext (replaceAll_qb (L s))
  have hz := qb_len (L s)
  rw [L_len] at hz
  have hfin : T ([39] ++ (L s).flatMap qb ++ [39]) = T (bt (L s)) := rfl
  generalize (L s).flatMap qb = q at *
  have ha1 : ∀ w : World, (Op.stringOp .add ⟨#[39]⟩ (T q)).run Tryz.prog w = .ok (.string (⟨#[39]⟩ ++ T q)) w := fun w => run_string_add_sum w _ _ (by rw [h39, T_size]; omega)
  have ha2 : ∀ w : World, (Op.stringOp .add (⟨#[39]⟩ ++ T q) ⟨#[39]⟩).run Tryz.prog w = .ok (.string (⟨#[39]⟩ ++ T q ++ ⟨#[39]⟩)) w := fun w => run_string_add_sum w _ _ (by rw [ByteArray.size_append, h39, T_size]; omega)
  go_enter Tryz.func126, Tryz.ntmps126
  go_wp2_with fail
  refine cR.mono ?_
  rintro e w2 ⟨rfl, hb⟩
  go_wp2_with fail
  go_ret
  refine ⟨ret_str ?_, hb⟩
  rw [← hfin]
  exact L_ext (by rw [L_add, L_add]; rfl)

theorem bare_len (l : Bytes) : (bareP l).length ≤ 4 * l.length + 2 := by
  have := bt_len l
  unfold bareP
  split <;> omega

set_option maxHeartbeats 1000000 in
set_option maxRecDepth 100000 in
theorem bare_any (s : ByteArray) (w : World) (hT : Tab w) (hs : s.size ≤ 1000000) :
    Calls Tryz.prog 125 #[.string s] w fun e w' => e = .returned (.string (T (bareP (L s)))) ∧ Below w.heap.size w w' := by
  by_cases hne : L s = []
  · have he := empty_true hne
    have cB := between_any s w hT hs
    have HF : Hid (bareP (L s) = bt (L s)) := Lib.hid (by unfold bareP; rw [if_neg (by simp [hne])])
    generalize bt (L s) = q at *
    go_enter Tryz.func125, Tryz.ntmps125
    go_wp2_with fail
    refine cB.mono ?_
    rintro e w2 ⟨rfl, hb⟩
    go_wp2_with fail
    go_ret
    exact ⟨by rw [HF.out]; rfl, hb⟩
  · have he := empty_false hne
    have cA := allPlain_any s w hT hs
    have HP : Hid (∀ b, allPlain (L s) = b → bareP (L s) = if b then L s else bt (L s)) := Lib.hid (fun b hb => by
      unfold bareP
      cases b with
      | true => rw [if_pos ⟨hne, hb⟩]; rfl
      | false => rw [if_neg (by simp [hb])]; rfl)
    obtain ⟨p, hp⟩ : ∃ p, allPlain (L s) = p := ⟨_, rfl⟩
    rw [hp] at cA
    have HB := Lib.hid (HP.out p hp)
    clear hp HP
    cases p with
    | true =>
      go_enter Tryz.func125, Tryz.ntmps125
      go_wp2_with fail
      refine cA.mono ?_
      rintro e w2 ⟨rfl, hb⟩
      go_wp2_with fail
      go_ret
      exact ⟨by rw [HB.out]; exact ret_str (T_L s).symm, hb⟩
    | false =>
      go_enter Tryz.func125, Tryz.ntmps125
      go_wp2_with fail
      refine cA.mono ?_
      rintro e w2 ⟨rfl, hb⟩
      go_wp2_with fail
      refine (between_any s w2 (hT.keep hb) hs).mono ?_
      rintro e w3 ⟨rfl, hb3⟩
      go_wp2_with fail
      go_ret
      exact ⟨by rw [HB.out]; rfl, below_two hb hb3⟩
end Go.Proofs.YtigkdehaepenhaaGreatDoor.Q

namespace Go.Proofs.YtigkdehaepenhaaGreatDoor.Q
open Go.RowKit

/-- In w the builder at b, made behind W0, holds l; nothing of W0 has changed. -/
def Bld (W0 : World) (b : Nat) (l : Bytes) (w : World) : Prop := Lib.IsBuilderF 106 5 W0.heap.size b (Lib.byteCells l) w ∧ Below W0.heap.size W0 w ∧ W0.heap.size ≤ w.heap.size

theorem at_keep {T e : TypeId} {B b : Nat} {p : Value} {bs : List Value} {w w' : World} (h : Lib.BuilderAtF T e B b p bs w) (hb : Below w.heap.size w w') : Lib.BuilderAtF T e B b p bs w' := by
  have hlt := h.lt
  obtain ⟨hB, v, hbk, hown, hne⟩ := h
  refine ⟨hB, v, (hb.block b hlt).trans hbk, ?_, hne⟩
  exact hown.kept (row := none) ⟨hb.os, hb.tape, hb.output, hb.size, fun k hk _ => hb.block k hk⟩ (by cases v.ownBlock <;> simp)
theorem Bld.keep {W0 : World} {b : Nat} {l : Bytes} {w w' : World} (h : Bld W0 b l w) (hb : Below w.heap.size w w') : Bld W0 b l w' := by
  obtain ⟨h1, h2, h3⟩ := h
  refine ⟨?_, h2.trans (hb.mono h3), Nat.le_trans h3 hb.size⟩
  rcases h1 with h1 | h1
  · exact .inl (at_keep h1 hb)
  · exact .inr (at_keep h1 hb)
theorem Bld.tab {W0 : World} {b : Nat} {l : Bytes} {w : World} (h : Bld W0 b l w) (hT : Tab W0) : Tab w := hT.keep h.2.1

theorem Bld.made (W0 : World) : Bld W0 W0.heap.size [] (W0.alloc (.cells #[.pointer none, .slice none 0 0] 106)) := by
  refine ⟨.inl ⟨Nat.le_refl _, .slice none 0 0, ?_, World.ownsRowF_nil _ _ _ _, by simp [Value.ownBlock]⟩, (Below.refl _ _).alloc (Nat.le_refl _) _, by simp⟩
  exact heap_alloc_new _ _

theorem Bld.writeByte {W0 : World} {b : Nat} {l : Bytes} {w : World} (h : Bld W0 b l w) (hl : l.length ≤ 1000000000) (c : UInt8) (n : Int) (hn : n = (c.toNat : Int)) :
    Calls Tryz.prog 143 #[.pointer (some ⟨b, 0, none⟩), .int .u8 n] w fun e w' => e = .returned .nilIface ∧ Bld W0 b (l ++ [c]) w' := by
  subst hn
  obtain ⟨h1, h2, h3⟩ := h
  refine (Any.Builder_WriteByte_k Tryz.laysB167 Tryz.Builder_Extra_B W0.heap.size b (Lib.byteCells l) (c.toNat : Int) w h1 (by rw [Lib.byteCells_length]; omega) h3).mono ?_
  rintro e w' ⟨rfl, hA, hb, _⟩
  refine ⟨rfl, .inr ?_, h2.trans hb, Nat.le_trans h3 hb.size⟩
  rw [Lib.byteCells_append]
  exact hA
theorem Bld.writeString {W0 : World} {b : Nat} {l : Bytes} {w : World} (h : Bld W0 b l w) (hl : l.length ≤ 1000000000) (s : ByteArray) (hs : s.size ≤ 1000000000) :
    Calls Tryz.prog 46 #[.pointer (some ⟨b, 0, none⟩), .string s] w fun e w' => (∃ v, e = .returned v) ∧ Bld W0 b (l ++ L s) w' := by
  obtain ⟨h1, h2, h3⟩ := h
  refine (Any.Builder_WriteString_k Tryz.laysB166 Tryz.Builder_Extra_B W0.heap.size b (Lib.byteCells l) s w h1 (by rw [Lib.byteCells_length]; omega) h3).mono ?_
  rintro e w' ⟨rfl, hA, hb, _⟩
  refine ⟨⟨_, rfl⟩, .inr ?_, h2.trans hb, Nat.le_trans h3 hb.size⟩
  rw [Lib.byteCells_append]
  exact hA
theorem Bld.string {W0 : World} {b : Nat} {l : Bytes} {w : World} (h : Bld W0 b l w) :
    Calls Tryz.prog 47 #[.pointer (some ⟨b, 0, none⟩)] w fun e w' => e = .returned (.string (T l)) ∧ Below W0.heap.size W0 w' := by
  obtain ⟨h1, h2, h3⟩ := h
  refine (Any.Builder_String_any_k Tryz.laysB169 Tryz.Builder_Extra_B W0.heap.size b l w h1 h3).mono ?_
  rintro e w' ⟨rfl, _, hb, _⟩
  exact ⟨rfl, h2.trans hb⟩

theorem esc_len (b : UInt8) : (esc b).length ≤ 4 := by unfold esc; repeat' split
                                                       all_goals simp

set_option maxHeartbeats 1000000 in
set_option maxRecDepth 100000 in
theorem writeEscape_any {W0 : World} {b : Nat} {l : Bytes} {w : World} (h : Bld W0 b l w) (hl : l.length ≤ 900000000) (c : UInt8) :
    Calls Tryz.prog 142 #[.pointer (some ⟨b, 0, none⟩), .int .u8 (c.toNat : Int)] w fun e w' => e = .returned (.tuple #[]) ∧ Bld W0 b (l ++ esc c) w' := by
  have hc := c.toNat_lt
  obtain ⟨n, hn⟩ : ∃ n, c.toNat = n := ⟨_, rfl⟩
  have h1 := h.writeByte (by omega) 92 92 rfl
  by_cases h10 : n = 10
  · have he : esc c = [92] ++ [110] := by
      have : c = 10 := UInt8.toNat_inj.1 (by rw [hn, h10]; rfl)
      subst this; rfl
    rw [hn, h10]
    go_enter Tryz.func142, Tryz.ntmps142
    go_wp2_with fail
    refine h1.mono ?_
    rintro e w2 ⟨rfl, h2⟩
    go_wp2_with fail
    refine (h2.writeByte (by simp; omega) 110 110 rfl).mono ?_
    rintro e w3 ⟨rfl, h3⟩
    go_wp2_with fail
    go_end0
    refine ⟨rfl, ?_⟩
    rw [he, ← List.append_assoc]
    exact h3
  · by_cases h9 : n = 9
    · have he : esc c = [92] ++ [116] := by
        have : c = 9 := UInt8.toNat_inj.1 (by rw [hn, h9]; rfl)
        subst this; rfl
      rw [hn, h9]
      go_enter Tryz.func142, Tryz.ntmps142
      go_wp2_with fail
      refine h1.mono ?_
      rintro e w2 ⟨rfl, h2⟩
      go_wp2_with fail
      refine (h2.writeByte (by simp; omega) 116 116 rfl).mono ?_
      rintro e w3 ⟨rfl, h3⟩
      go_wp2_with fail
      go_end0
      refine ⟨rfl, ?_⟩
      rw [he, ← List.append_assoc]
      exact h3
    · have he : Hid (esc c = [92] ++ [48 + c / 64] ++ [48 + c / 8 % 8] ++ [48 + c % 8]) := Lib.hid (by
        unfold esc
        rw [if_neg (fun e => h10 (by rw [← hn, e]; rfl)), if_neg (fun e => h9 (by rw [← hn, e]; rfl))]
        rfl)
      have d1 : Hid ((48 + c / 64 : UInt8).toNat = 48 + n / 64) := Lib.hid (by
        rw [UInt8.toNat_add, UInt8.toNat_div, hn]; show (48 + n / 64) % 256 = _; omega)
      have d2 : Hid ((48 + c / 8 % 8 : UInt8).toNat = 48 + n / 8 % 8) := Lib.hid (by
        rw [UInt8.toNat_add, UInt8.toNat_mod, UInt8.toNat_div, hn]; show (48 + n / 8 % 8) % 256 = _; omega)
      have d3 : Hid ((48 + c % 8 : UInt8).toNat = 48 + n % 8) := Lib.hid (by
        rw [UInt8.toNat_add, UInt8.toNat_mod, hn]; show (48 + n % 8) % 256 = _; omega)
      have q1 : ((n : Int) == 10) = false := beq_eq_false_iff_ne.2 (by omega)
      have q2 : ((n : Int) == 9) = false := beq_eq_false_iff_ne.2 (by omega)
      rw [hn]
      go_enter Tryz.func142, Tryz.ntmps142
      go_wp2_with fail
      refine h1.mono ?_
      rintro e w2 ⟨rfl, h2⟩
      go_wp2_with fail
      refine (h2.writeByte (by simp; omega) (48 + c / 64) _ ?_).mono ?_
      · rw [d1.out]; omega
      rintro e w3 ⟨rfl, h3⟩
      go_wp2_with fail
      refine (h3.writeByte (by simp; omega) (48 + c / 8 % 8) _ ?_).mono ?_
      · rw [d2.out]; omega
      rintro e w4 ⟨rfl, h4⟩
      go_wp2_with fail
      refine (h4.writeByte (by simp; omega) (48 + c % 8) _ ?_).mono ?_
      · rw [d3.out]; omega
      rintro e w5 ⟨rfl, h5⟩
      go_wp2_with fail
      go_end0
      refine ⟨rfl, ?_⟩
      rw [he.out, ← List.append_assoc, ← List.append_assoc, ← List.append_assoc]
      exact h5
end Go.Proofs.YtigkdehaepenhaaGreatDoor.Q

namespace Go.Proofs.YtigkdehaepenhaaGreatDoor.Q
open Go.RowKit

theorem bsC_len (sign : UInt8) (c : Bytes) : (bsC sign c).length ≤ 4 * c.length := by
  cases c with
  | nil => simp [bsC]
  | cons b r =>
    have := esc_len b
    simp only [bsC]
    repeat' split
    all_goals simp only [List.length_cons, List.length_nil] at *
    all_goals omega
theorem bsP_nil (sign : UInt8) : bsP sign [] = [] := by unfold bsP; rw [chunks_nil]; rfl
theorem bsP_step (sign : UInt8) {l : Bytes} (h : l ≠ []) : bsP sign l = bsC sign (l.take (sz l)) ++ bsP sign (l.drop (sz l)) := by
  unfold bsP
  rw [chunks_step l h, List.flatMap_cons]
theorem bsP_len (sign : UInt8) (l : Bytes) : (bsP sign l).length ≤ 4 * l.length := by
  refine by_drop (P := fun l => (bsP sign l).length ≤ 4 * l.length) ?_ ?_ l
  · rw [bsP_nil]; simp
  · intro l h ih
    have h1 := bsC_len sign (l.take (sz l))
    have h2 := sz_le l h
    rw [bsP_step sign h, List.length_append]
    rw [List.length_drop] at ih
    rw [List.length_take] at h1
    omega
theorem take_cons {l : Bytes} {K : Nat} (h : l ≠ []) (hK : 1 ≤ K) : ∃ r, l.take K = l.head h :: r := by
  cases l with
  | nil => exact absurd rfl h
  | cons b r =>
    obtain ⟨j, rfl⟩ : ∃ j, K = j + 1 := ⟨K - 1, by omega⟩
    exact ⟨r.take j, rfl⟩
theorem head_get (s : ByteArray) (h : L s ≠ []) (h0 : 0 < s.size) : s[0]'h0 = (L s).head h := by
  rw [get_at, List.head_eq_getElem]
theorem tail_size (t : ByteArray) (K : Nat) : (t.extract K t.size).size = t.size - K := by
  rw [← L_len, L_from, List.length_drop, L_len]

def SlashRel (s : ByteArray) (sign : UInt8) (w : World) (v : Value) (w' : World) : Prop :=
  ∃ (t : ByteArray) (out : Bytes), v = .string t ∧ t.size ≤ s.size ∧ out ++ bsP sign (L t) = bsP sign (L s) ∧ out.length ≤ 4 * s.size ∧ Bld w w.heap.size out w'

set_option maxHeartbeats 2000000 in
set_option maxRecDepth 100000 in
theorem backslashed_any (s : ByteArray) (sign : UInt8) (w : World) (hT : Tab w) (hs : s.size ≤ 1000000) :
    Calls Tryz.prog 129 #[.string s, .int .u8 (sign.toNat : Int)] w fun e w' => e = .returned (.string (T (bsP sign (L s)))) ∧ Below w.heap.size w w' := by
  have HM := Lib.hid (Bld.made w)
  have hsz := bsP_len sign (L s)
  rw [L_len] at hsz
  obtain ⟨sg, hsg⟩ : ∃ sg, sign.toNat = sg := ⟨_, rfl⟩
  rw [hsg]
  go_enter Tryz.func129, Tryz.ntmps129
  go_wp2
  go_loopw [0] (SlashRel s sign w) (fun v _ => (textOf v).size)
  case atStart => exact ⟨s, [], rfl, Nat.le_refl _, rfl, by simp, HM.out⟩
  case round =>
    obtain ⟨t, out, rfl, hts, hr, hol, hb⟩ := hrel
    have HB := Lib.hid hb
    have HR := Lib.hid hr
    clear hb hr
    by_cases hne : L t = []
    · have he := empty_true hne
      go_wp2_with fail
      refine HB.out.string.mono ?_
      rintro e w2 ⟨rfl, hb2⟩
      go_wp2_with fail
      go_ret
      refine ⟨ret_str ?_, hb2⟩
      rw [← HR.out, hne, bsP_nil, List.append_nil]
    · have he := empty_false hne
      have h0 : 0 < t.size := L_ne.1 hne
      obtain ⟨K, hK⟩ : ∃ K, sz (L t) = K := ⟨_, rfl⟩
      obtain ⟨k, hk⟩ : ∃ k, kc ((L t).take K) = k := ⟨_, rfl⟩
      have cF := first_of t K k wr (HB.out.tab hT) hne hK hk
      have hbd : 1 ≤ K ∧ K ≤ 4 := by rw [← hK]; exact sz_bd _
      have hle : K ≤ t.size := by
        have h1 := sz_le _ hne
        rw [hK, L_len] at h1
        omega
      have HP : Hid (bsP sign (L t) = bsC sign ((L t).take K) ++ bsP sign ((L t).drop K)) := Lib.hid (by rw [bsP_step sign hne, hK])
      obtain ⟨b, hbb⟩ : ∃ b, t[0]'h0 = b := ⟨_, rfl⟩
      obtain ⟨r, hr⟩ := take_cons (K := K) hne hbd.1
      rw [← head_get t hne h0, hbb] at hr
      have HC : Hid ((L t).take K = b :: r) := Lib.hid hr
      have HK : Hid (hardC (b :: r) = decide (k = 1)) := Lib.hid (by
        rw [← hr]
        unfold hardC
        rw [hk]
        rfl)
      have HL : Hid (∀ o : Bytes, o = out ++ bsC sign ((L t).take K) → o ++ bsP sign ((L t).drop K) = bsP sign (L s) ∧ o.length ≤ 4 * s.size) := Lib.hid (fun o ho => by
        have e : o ++ bsP sign ((L t).drop K) = bsP sign (L s) := by rw [ho, ← HR.out, HP.out, List.append_assoc]
        refine ⟨e, ?_⟩
        have := congrArg List.length e
        rw [List.length_append] at this
        omega)
      obtain ⟨bn, hbn⟩ : ∃ bn, b.toNat = bn := ⟨_, rfl⟩
      have hb92 : Hid ((b = 92) ↔ bn = 92) := Lib.hid (by rw [← UInt8.toNat_inj, hbn]; rfl)
      have hbsg : Hid ((b = sign) ↔ bn = sg) := Lib.hid (by rw [← UInt8.toNat_inj, hbn, hsg])
      have hz2 := tail_size t K
      clear hK hk hr hne
      go_wp2_with fail
      refine cF.mono ?_
      rintro e w2 ⟨rfl, hb2⟩
      have HB2 := Lib.hid (HB.out.keep hb2)
      clear hb2 cF
      by_cases hq : k = 1
      · subst hq
        go_wp2_with fail
        have cE := writeEscape_any HB2.out (by omega) b
        rw [hbn] at cE
        refine cE.mono ?_
        rintro e w3 ⟨rfl, h3⟩
        have HB3 := Lib.hid h3
        clear h3
        go_wp2_with fail
        go_roundw
        case rel =>
          obtain ⟨e1, e2⟩ := HL.out (out ++ esc b) (by rw [HC.out, bsC, HK.out]; rfl)
          refine ⟨t.extract K t.size, out ++ esc b, rfl, by omega, ?_, e2, HB3.out⟩
          rw [L_from]; exact e1
        case measure =>
          show (t.extract K t.size).size < t.size
          omega
      · have hq2 : (((k : Nat) : Int) == 1) = false := beq_eq_false_iff_ne.2 (by omega)
        by_cases hs2 : bn = 92 ∨ bn = sg
        · have hbs : Hid (bsC sign ((L t).take K) = [92] ++ [b]) := Lib.hid (by
            rw [HC.out, bsC, HK.out, decide_eq_false hq, if_neg (by decide), if_pos (by rw [hb92.out, hbsg.out]; exact hs2)]
            rfl)
          have key : ∀ (w3 : World) (n : Int), n = (bn : Int) → Bld w w.heap.size (out ++ [92]) w3 → Calls Tryz.prog 143 #[.pointer (some ⟨w.heap.size, 0, none⟩), .int .u8 n] w3 fun e w' => e = .returned .nilIface ∧ Bld w w.heap.size (out ++ [92] ++ [b]) w' :=
            fun w3 n hn h3 => h3.writeByte (by simp; omega) b n (by rw [hbn]; exact hn)
          by_cases h92 : bn = 92
          · have hx : ((bn : Int) == 92) = true := by rw [h92]; rfl
            clear hs2 h92 hq
            go_wp2_with fail
            refine (HB2.out.writeByte (by omega) 92 92 rfl).mono ?_
            rintro e w3 ⟨rfl, h3⟩
            go_wp2_with fail
            refine (key w3 _ rfl h3).mono ?_
            rintro e w4 ⟨rfl, h4⟩
            have HB4 := Lib.hid h4
            clear h3 h4
            go_wp2_with fail
            go_roundw
            case rel =>
              obtain ⟨e1, e2⟩ := HL.out (out ++ [92] ++ [b]) (by rw [hbs.out, List.append_assoc])
              refine ⟨t.extract K t.size, out ++ [92] ++ [b], rfl, by omega, ?_, e2, HB4.out⟩
              rw [L_from]; exact e1
            case measure =>
              show (t.extract K t.size).size < t.size
              omega
          · have hx : ((bn : Int) == 92) = false := beq_eq_false_iff_ne.2 (by omega)
            have hx2 : ((bn : Int) == (sg : Int)) = true := beq_iff_eq.2 (by omega)
            clear hs2 h92 hq
            go_wp2_with fail
            refine (HB2.out.writeByte (by omega) 92 92 rfl).mono ?_
            rintro e w3 ⟨rfl, h3⟩
            go_wp2_with fail
            refine (key w3 _ rfl h3).mono ?_
            rintro e w4 ⟨rfl, h4⟩
            have HB4 := Lib.hid h4
            clear h3 h4
            go_wp2_with fail
            go_roundw
            case rel =>
              obtain ⟨e1, e2⟩ := HL.out (out ++ [92] ++ [b]) (by rw [hbs.out, List.append_assoc])
              refine ⟨t.extract K t.size, out ++ [92] ++ [b], rfl, by omega, ?_, e2, HB4.out⟩
              rw [L_from]; exact e1
            case measure =>
              show (t.extract K t.size).size < t.size
              omega
        · have hx : ((bn : Int) == 92) = false := beq_eq_false_iff_ne.2 (by omega)
          have hx2 : ((bn : Int) == (sg : Int)) = false := beq_eq_false_iff_ne.2 (by omega)
          have hbs : Hid (bsC sign ((L t).take K) = (L t).take K) := Lib.hid (by
            rw [HC.out, bsC, HK.out, decide_eq_false hq, if_neg (by decide), if_neg (by rw [hb92.out, hbsg.out]; exact hs2)])
          have hz : (t.extract 0 K).size ≤ 1000000000 := by rw [← L_len, L_to, List.length_take]; omega
          go_wp2_with fail
          refine (HB2.out.writeString (by omega) (t.extract 0 K) hz).mono ?_
          rintro e w3 ⟨⟨v3, rfl⟩, h3⟩
          have HB3 := Lib.hid h3
          clear h3
          go_wp2_with fail
          go_roundw
          case rel =>
            obtain ⟨e1, e2⟩ := HL.out (out ++ L (t.extract 0 K)) (by rw [hbs.out, L_to])
            refine ⟨t.extract K t.size, out ++ L (t.extract 0 K), rfl, by omega, ?_, e2, HB3.out⟩
            rw [L_from]; exact e1
          case measure =>
            show (t.extract K t.size).size < t.size
            omega
end Go.Proofs.YtigkdehaepenhaaGreatDoor.Q

namespace Go.Proofs.YtigkdehaepenhaaGreatDoor.Q

theorem soft_fun : (fun c => hardC c == false) = (fun c => !hardC c) := by
  funext c
  cases hardC c <;> rfl
theorem hard_fun : (fun c => hardC c == true) = hardC := by
  funext c
  cases hardC c <;> rfl
theorem run_take (h : Bool) (l : Bytes) : l.take (runP h l) = ((chunks l).takeWhile (fun c => hardC c == h)).flatten := by
  have e := run_split h l
  conv => lhs; arg 2; rw [e]
  exact List.take_left
theorem run_drop (h : Bool) (l : Bytes) : l.drop (runP h l) = ((chunks l).dropWhile (fun c => hardC c == h)).flatten := by
  have e := run_split h l
  conv => lhs; arg 2; rw [e]
  exact List.drop_left
theorem run_chunks (h : Bool) (l : Bytes) : chunks (l.drop (runP h l)) = (chunks l).dropWhile (fun c => hardC c == h) := by
  rw [run_drop]
  exact chunks_tail (p := (chunks l).takeWhile (fun c => hardC c == h)) (List.takeWhile_append_dropWhile).symm
theorem run_zero (h : Bool) (l : Bytes) : (chunks l).takeWhile (fun c => hardC c == h) = [] ↔ runP h l = 0 := by
  constructor
  · intro e
    unfold runP
    rw [e]
    rfl
  · intro e
    apply Classical.byContradiction
    intro hn
    have := flat_pos (fun c hc => chunks_chr l c ((List.takeWhile_sublist _).subset hc)) hn
    unfold runP at e
    omega
theorem run_le (h : Bool) (l : Bytes) : runP h l ≤ l.length := by
  have e := congrArg List.length (run_split h l)
  rw [List.length_append] at e
  unfold runP
  omega
theorem run_some {l : Bytes} (hl : l ≠ []) (h0 : runP false l = 0) : 0 < runP true l := by
  have hb := sz_bd l
  by_cases hc : hardC (l.take (sz l)) = true
  · rw [runP_step hl hc]; omega
  · have := runP_step (h := false) hl (by simpa using hc)
    omega
theorem strP_nil : strP [] = [] := by rw [strP]; simp
theorem strP_at {l : Bytes} (hl : l ≠ []) {n1 n2 : Nat} (h1 : runP false l = n1) (h2 : runP true (l.drop n1) = n2) :
    strP (chunks l) = (if n1 = 0 then [] else bt (l.take n1)) ++ ((if n2 = 0 then [] else hardS ((l.drop n1).take n2)) ++ strP (chunks ((l.drop n1).drop n2))) := by
  subst h1; subst h2
  rw [strP, dif_neg (by rw [chunks_step l hl]; simp)]
  rw [run_chunks true, run_take true, run_chunks false, run_take false, hard_fun, soft_fun]
  have e1 : ((chunks l).takeWhile (fun c => !hardC c) = []) = (runP false l = 0) := propext (by rw [← soft_fun]; exact run_zero false l)
  have e2 : (((chunks l).dropWhile (fun c => !hardC c)).takeWhile hardC = []) = (runP true (l.drop (runP false l)) = 0) := propext (by
    rw [← soft_fun, ← run_chunks false]
    have := run_zero true (l.drop (runP false l))
    rw [hard_fun] at this
    exact this)
  simp only [e1, e2]
theorem esc_all_len (l : Bytes) : (l.flatMap esc).length ≤ 4 * l.length := by
  induction l with
  | nil => simp
  | cons b l ih =>
    have := esc_len b
    rw [List.flatMap_cons, List.length_append, List.length_cons]
    omega
theorem hardS_len (l : Bytes) : (hardS l).length ≤ 4 * l.length + 3 := by
  have := esc_all_len l
  unfold hardS
  simp only [List.length_cons, List.length_append, List.length_nil]
  omega
theorem strP_len (l : Bytes) : (strP (chunks l)).length ≤ 7 * l.length := by
  obtain ⟨n, hn⟩ : ∃ n, l.length = n := ⟨_, rfl⟩
  induction n using Nat.strongRecOn generalizing l with
  | _ n ih =>
    by_cases hl : l = []
    · subst hl; rw [chunks_nil, strP_nil]; simp
    · rw [strP_at hl rfl rfl]
      have a1 := run_le false l
      have a2 := run_le true (l.drop (runP false l))
      rw [List.length_drop] at a2
      have a3 : runP false l = 0 → 0 < runP true (l.drop (runP false l)) := fun h0 => by rw [h0, List.drop_zero]; exact run_some hl h0
      have i1 := ih ((l.drop (runP false l)).drop (runP true (l.drop (runP false l)))).length (by
        rw [List.length_drop, List.length_drop]
        omega) _ rfl
      rw [List.length_drop, List.length_drop] at i1
      have b1 := bt_len (l.take (runP false l))
      rw [List.length_take] at b1
      have b2 := hardS_len ((l.drop (runP false l)).take (runP true (l.drop (runP false l))))
      rw [List.length_take, List.length_drop] at b2
      rw [List.length_append, List.length_append]
      split <;> split <;> (try simp only [List.length_nil]) <;> omega
end Go.Proofs.YtigkdehaepenhaaGreatDoor.Q
