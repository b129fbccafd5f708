/-
  Plain facts on the characters of a text (a list of bytes): how long the first one is, the characters one by one, and what the chapter makes of them. Conditions: none.
  What the proofs of this seat lean on: the library's tables lie as they are laid; texts as lists of bytes; what a call keeps. Conditions: each fact's own.
  What the listed library variables give the walks: the two tables of unicode/utf8; and that the library's one other variable holds a number. Conditions: none.
-/
import Derived.Lib.DecodeN
import Derived.Test.YtigkdehaepenhaaGreatDoorRows
import Derived.Test.YtigkdehaepenhaaGreatDoorShelfB
import Derived.Test.YtigkdehaepenhaaGreatDoorShelf
import Derived.WalkKit
import Derived.WalkSpells
import Derived.WalkLawsBesides
import Derived.WalkMore
import Derived.ScopeJumps
import Derived.Lib.Hide
import Derived.Lib.OthersKept
import Derived.Lib.BufSteps
import Derived.Lib.LaidU8
import Derived.Test.YtigkdehaepenhaaGreatDoorCards
import Derived.Test.YtigkdehaepenhaaGreatDoorTie
import Derived.ProofKit
import Derived.OpenShut
import Derived.ShutString
import Derived.ChangeOld
import Derived.Below
import Derived.LaidMore
import Derived.Lay
import Derived.Deep.Slices
import Derived.Deep.Fields
import Derived.ChangeSame
import Derived.Deep.DeepHandedRow
import Derived.Deep.DeepWitnessRowRef
import Derived.Stop.LaidErr
set_option linter.unusedVariables false
namespace Go.Proofs.YtigkdehaepenhaaGreatDoor.Q

abbrev Bytes := List UInt8
def nth (l : Bytes) (i : Nat) : Nat := (l.getD i 0).toNat
/-- The first character's number, and its bytes. -/
def dec (l : Bytes) : Nat × Nat := Lib.decodeN l.length (nth l 0) (nth l 1) (nth l 2) (nth l 3)
def sz (l : Bytes) : Nat := (dec l).2

theorem nth_app (c r : Bytes) (i : Nat) (h : i < c.length) : nth (c ++ r) i = nth c i := by
  unfold nth
  rw [List.getD_eq_getElem?_getD, List.getD_eq_getElem?_getD, List.getElem?_append_left h]

set_option maxRecDepth 100000 in
theorem dN_bd (n b0 b1 b2 b3 : Nat) : 1 ≤ (Lib.decodeN n b0 b1 b2 b3).2 ∧ (Lib.decodeN n b0 b1 b2 b3).2 ≤ 4 := by
  unfold Lib.decodeN
  repeat' split
  all_goals simp
set_option maxRecDepth 100000 in
theorem dN_le (n b0 b1 b2 b3 : Nat) (h : 1 ≤ n) : (Lib.decodeN n b0 b1 b2 b3).2 ≤ n := by
  unfold Lib.decodeN
  repeat' split
  all_goals first | exact h | (dsimp only; omega)
/-- What a character of more than one byte is made of. -/
def Multi (k n b0 b1 b2 b3 : Nat) : Prop :=
  (k = 2 ∧ b0 / 32 = 6 ∧ 1 < n ∧ b1 / 64 = 2 ∧ 128 ≤ b0 % 32 * 64 + b1 % 64) ∨
  (k = 3 ∧ b0 / 16 = 14 ∧ 1 < n ∧ b1 / 64 = 2 ∧ 2 < n ∧ b2 / 64 = 2 ∧ 2048 ≤ b0 % 16 * 4096 + b1 % 64 * 64 + b2 % 64 ∧ (b0 % 16 * 4096 + b1 % 64 * 64 + b2 % 64 < 55296 ∨ 57344 ≤ b0 % 16 * 4096 + b1 % 64 * 64 + b2 % 64)) ∨
  (k = 4 ∧ b0 / 8 = 30 ∧ 1 < n ∧ b1 / 64 = 2 ∧ 2 < n ∧ b2 / 64 = 2 ∧ 3 < n ∧ b3 / 64 = 2 ∧ 65536 ≤ b0 % 8 * 262144 + b1 % 64 * 4096 + b2 % 64 * 64 + b3 % 64 ∧ b0 % 8 * 262144 + b1 % 64 * 4096 + b2 % 64 * 64 + b3 % 64 ≤ 1114111)
set_option maxRecDepth 100000 in
theorem dN_multi (n b0 b1 b2 b3 : Nat) (h : 1 < (Lib.decodeN n b0 b1 b2 b3).2) : Multi (Lib.decodeN n b0 b1 b2 b3).2 n b0 b1 b2 b3 := by
  revert h
  unfold Lib.decodeN
  repeat' split
  all_goals intro h
  all_goals first | (exfalso; dsimp only at h; omega) | skip
  all_goals (unfold Multi; dsimp only; omega)
set_option maxRecDepth 100000 in
theorem dN_of (k n b0 b1 b2 b3 : Nat) (h : Multi k n b0 b1 b2 b3) : (Lib.decodeN n b0 b1 b2 b3).2 = k := by
  unfold Multi at h
  unfold Lib.decodeN
  repeat' split
  all_goals first | (exfalso; omega) | (dsimp only; omega)

theorem sz_bd (l : Bytes) : 1 ≤ sz l ∧ sz l ≤ 4 := dN_bd _ _ _ _ _
theorem sz_le (l : Bytes) (h : l ≠ []) : sz l ≤ l.length := dN_le _ _ _ _ _ (by cases l with | nil => exact absurd rfl h | cons _ _ => simp)
theorem sz_ascii (b : UInt8) (r : Bytes) (h : b.toNat < 128) : sz (b :: r) = 1 := by
  unfold sz dec Lib.decodeN
  have : nth (b :: r) 0 = b.toNat := rfl
  rw [this, if_pos h]
theorem multi_at {l : Bytes} (h : 1 < sz l) : Multi (sz l) l.length (nth l 0) (nth l 1) (nth l 2) (nth l 3) := dN_multi _ _ _ _ _ h
theorem multi_high {l : Bytes} (h : 1 < sz l) (i : Nat) (hi : i < sz l) : 128 ≤ nth l i := by
  have m := multi_at h
  unfold Multi at m
  have : i < 4 := by omega
  match i, this with
  | 0, _ => omega
  | 1, _ => omega
  | 2, _ => omega
  | 3, _ => omega
theorem multi_len {l : Bytes} (h : 1 < sz l) : sz l ≤ l.length := sz_le l (by rintro rfl; revert h; decide)
/-- A character of more than one byte is the same, whatever follows. -/
theorem sz_other {c r : Bytes} (h : 1 < sz (c ++ r)) (hc : sz (c ++ r) = c.length) (r' : Bytes) : sz (c ++ r') = c.length := by
  have m := multi_at h
  rw [hc] at m h
  refine dN_of _ _ _ _ _ _ ?_
  have e0 : nth (c ++ r') 0 = nth (c ++ r) 0 := by rw [nth_app _ _ _ (by omega), nth_app _ _ _ (by omega)]
  have e1 : nth (c ++ r') 1 = nth (c ++ r) 1 := by rw [nth_app _ _ _ (by omega), nth_app _ _ _ (by omega)]
  have e2 : 2 < c.length → nth (c ++ r') 2 = nth (c ++ r) 2 := fun h2 => by rw [nth_app _ _ _ (by omega), nth_app _ _ _ (by omega)]
  have e3 : 3 < c.length → nth (c ++ r') 3 = nth (c ++ r) 3 := fun h2 => by rw [nth_app _ _ _ (by omega), nth_app _ _ _ (by omega)]
  unfold Multi at m ⊢
  rw [List.length_append]
  rw [e0, e1]
  rcases m with m | m | m
  · left; omega
  · right; left
    rw [e2 (by omega)]; omega
  · right; right
    rw [e2 (by omega), e3 (by omega)]; omega

/-- The characters of a text, one by one; a byte that begins none stands alone. -/
def chunks (l : Bytes) : List Bytes := if h : l = [] then [] else l.take (sz l) :: chunks (l.drop (sz l))
termination_by l.length
decreasing_by
  have := sz_bd l
  have : 0 < l.length := List.length_pos_iff.2 h
  rw [List.length_drop]
  omega
theorem chunks_nil : chunks [] = [] := by rw [chunks]; simp
theorem chunks_step (l : Bytes) (h : l ≠ []) : chunks l = l.take (sz l) :: chunks (l.drop (sz l)) := by
  rw [chunks]
  simp [h]
theorem chunks_ascii (b : UInt8) (r : Bytes) (h : b.toNat < 128) : chunks (b :: r) = [b] :: chunks r := by
  rw [chunks_step _ (by simp), sz_ascii b r h]
  simp
theorem by_drop {P : Bytes → Prop} (h0 : P []) (hs : ∀ l, l ≠ [] → P (l.drop (sz l)) → P l) (l : Bytes) : P l := by
  obtain ⟨n, hn⟩ : ∃ n, l.length = n := ⟨_, rfl⟩
  induction n using Nat.strongRecOn generalizing l with
  | _ n ih =>
    by_cases h : l = []
    · subst h; exact h0
    · refine hs l h (ih _ ?_ _ rfl)
      have := sz_bd l
      have : 0 < l.length := List.length_pos_iff.2 h
      rw [List.length_drop]
      omega
theorem chunks_flat (l : Bytes) : (chunks l).flatten = l := by
  refine by_drop (P := fun l => (chunks l).flatten = l) ?_ ?_ l
  · rw [chunks_nil]; rfl
  · intro l h ih
    rw [chunks_step l h, List.flatten_cons, ih, List.take_append_drop]
theorem chunks_tail {l : Bytes} {p q : List Bytes} (h : chunks l = p ++ q) : chunks q.flatten = q := by
  induction p generalizing l with
  | nil =>
    rw [List.nil_append] at h
    rw [← h, chunks_flat]
  | cons c p ih =>
    by_cases hl : l = []
    · subst hl; rw [chunks_nil] at h; simp at h
    · rw [chunks_step l hl] at h
      simp only [List.cons_append, List.cons.injEq] at h
      exact ih h.2
/-- A character: one byte, or more of a kind that belong together whatever follows. -/
def Chr (c : Bytes) : Prop := (∃ b, c = [b]) ∨ (2 ≤ c.length ∧ (∀ r, sz (c ++ r) = c.length) ∧ ∀ b ∈ c, 128 ≤ b.toNat)
theorem chr_first (l : Bytes) (h : l ≠ []) : Chr (l.take (sz l)) := by
  have hb := sz_bd l
  have hl := sz_le l h
  by_cases h1 : sz l = 1
  · left
    rw [h1]
    cases l with
    | nil => exact absurd rfl h
    | cons b r => exact ⟨b, rfl⟩
  · right
    have hlen : (l.take (sz l)).length = sz l := by rw [List.length_take]; omega
    refine ⟨by omega, fun r => ?_, fun b hm => ?_⟩
    · rw [hlen]
      have := sz_other (c := l.take (sz l)) (r := l.drop (sz l)) (by rw [List.take_append_drop]; omega) (by rw [List.take_append_drop, hlen]) r
      rw [this, hlen]
    · obtain ⟨i, hi, rfl⟩ := List.mem_iff_getElem.1 hm
      have := multi_high (l := l) (by omega) i (by omega)
      unfold nth at this
      rw [List.getElem_take]
      rw [List.getD_eq_getElem?_getD, List.getElem?_eq_getElem (by omega)] at this
      exact this
theorem chunks_chr (l : Bytes) : ∀ c ∈ chunks l, Chr c := by
  refine by_drop (P := fun l => ∀ c ∈ chunks l, Chr c) ?_ ?_ l
  · rw [chunks_nil]; simp
  · intro l h ih c hc
    rw [chunks_step l h] at hc
    rcases List.mem_cons.1 hc with rfl | hc
    · exact chr_first l h
    · exact ih c hc
theorem Chr.ne {c : Bytes} (h : Chr c) : c ≠ [] := by
  rintro rfl
  rcases h with ⟨b, hb⟩ | h
  · cases hb
  · simp at h
theorem chunks_multi {c : Bytes} (h : 2 ≤ c.length) (hs : ∀ r, sz (c ++ r) = c.length) (r : Bytes) : chunks (c ++ r) = c :: chunks r := by
  rw [chunks_step _ (by intro e; have := congrArg List.length e; simp at this; simp [this] at h), hs r, List.take_left, List.drop_left]

/-- The plain bytes below 80. -/
def plainB (n : Nat) : Bool := (decide (65 ≤ n) && decide (n ≤ 90)) || (decide (97 ≤ n) && decide (n ≤ 122)) || (decide (48 ≤ n) && decide (n ≤ 57)) || [95, 64, 37, 43, 61, 58, 44, 46, 47, 45].contains n
/-- What a byte that stands alone is: 0 plain, 1 hard, 2 neither. -/
def kb (n : Nat) : Nat := if n < 32 ∨ 127 ≤ n then 1 else if plainB n then 0 else 2
/-- What a character is. -/
def kc : Bytes → Nat
  | [] => 2
  | [b] => kb b.toNat
  | _ => 0
theorem kc_multi {c : Bytes} (h : 2 ≤ c.length) : kc c = 0 := by
  match c, h with
  | _ :: _ :: _, _ => rfl
def hardC (c : Bytes) : Bool := kc c == 1
theorem hardC_one {c : Bytes} (hc : Chr c) (h : hardC c = true) : ∃ b, c = [b] := by
  rcases hc with hc | ⟨h2, _, _⟩
  · exact hc
  · unfold hardC at h
    rw [kc_multi h2] at h
    cases h

/-- A byte's escape. -/
def esc (b : UInt8) : Bytes := if b = 10 then [92, 110] else if b = 9 then [92, 116] else [92, 48 + b / 64, 48 + b / 8 % 8, 48 + b % 8]
/-- A byte between quotes. -/
def qb (b : UInt8) : Bytes := if b = 39 then [39, 92, 39, 39] else [b]
def bt (l : Bytes) : Bytes := 39 :: (l.flatMap qb ++ [39])
def allPlain (l : Bytes) : Bool := (chunks l).all (fun c => kc c == 0)
def hasHard (l : Bytes) : Bool := (chunks l).any hardC
def bareP (l : Bytes) : Bytes := if l ≠ [] ∧ allPlain l = true then l else bt l
def hardS (l : Bytes) : Bytes := 36 :: 39 :: (l.flatMap esc ++ [39])
/-- The stretches of a text's characters, one by one. -/
def strP (cs : List Bytes) : Bytes := if h : cs = [] then [] else
  (if cs.takeWhile (fun c => !hardC c) = [] then [] else bt (cs.takeWhile (fun c => !hardC c)).flatten) ++
  ((if (cs.dropWhile (fun c => !hardC c)).takeWhile hardC = [] then [] else hardS ((cs.dropWhile (fun c => !hardC c)).takeWhile hardC).flatten) ++
  strP ((cs.dropWhile (fun c => !hardC c)).dropWhile hardC))
termination_by cs.length
decreasing_by
  have l1 : ((cs.dropWhile (fun c => !hardC c)).dropWhile hardC).length ≤ (cs.dropWhile (fun c => !hardC c)).length := (List.dropWhile_sublist _).length_le
  have l2 : (cs.dropWhile (fun c => !hardC c)).length ≤ cs.length := (List.dropWhile_sublist _).length_le
  cases cs with
  | nil => exact absurd rfl h
  | cons c r =>
    by_cases hc : hardC c = true
    · have e : (c :: r).dropWhile (fun c => !hardC c) = c :: r := by simp [List.dropWhile, hc]
      rw [e] at l1 ⊢
      have e2 : (c :: r).dropWhile hardC = r.dropWhile hardC := by simp [List.dropWhile, hc]
      rw [e2]
      have := (List.dropWhile_sublist hardC (l := r)).length_le
      simp only [List.length_cons]
      omega
    · have e : (c :: r).dropWhile (fun c => !hardC c) = r.dropWhile (fun c => !hardC c) := by simp [List.dropWhile, hc]
      rw [e] at l1 ⊢
      have := (List.dropWhile_sublist (fun c => !hardC c) (l := r)).length_le
      simp only [List.length_cons]
      omega
/-- A character with backslashes. -/
def bsC (sign : UInt8) (c : Bytes) : Bytes := match c with
  | [] => []
  | b :: r => if hardC (b :: r) then esc b else if b = 92 ∨ b = sign then [92, b] else b :: r
def bsP (sign : UInt8) (l : Bytes) : Bytes := (chunks l).flatMap (bsC sign)
def quoteP (style : Int) (l : Bytes) : Bytes :=
  if style = 0 then l else if style = 1 then bareP l else if style = 2 then bt l
  else if style = 3 then (if hasHard l then strP (chunks l) else bareP l)
  else if style = 4 then 34 :: (bsP 34 l ++ [34]) else if style = 5 then bsP 32 l else []
end Go.Proofs.YtigkdehaepenhaaGreatDoor.Q

namespace Go.Proofs.YtigkdehaepenhaaGreatDoor.Q
open Go.RowKit

theorem below_two {w a b : World} (h : Below w.heap.size w a) (k : Below a.heap.size a b) : Below w.heap.size w b := h.trans (k.mono h.size)
theorem below_at {B : Nat} {w a b : World} (hB : B ≤ a.heap.size) (h : Below B w a) (k : Below a.heap.size a b) : Below B w b := h.trans (k.mono hB)
theorem cell_lt {w : World} {a : Addr} {v : Value} (h : w.cell? a = some v) : a.block < w.heap.size := by
  apply Classical.byContradiction
  intro hn
  have : w.heap[a.block]? = none := Array.getElem?_eq_none (by omega)
  unfold World.cell? at h
  simp [this] at h

/-- The library's tables lie; its one variable holds a number. -/
def Tab (w : World) : Prop := Lib.Utf8Tabs 5 6 w ∧ ∃ m : Int, w.cell? ⟨3, 0, none⟩ = some (.int .i64 m)
theorem Tab.keep {w w' : World} (h : Tab w) (hb : Below w.heap.size w w') : Tab w' := by
  obtain ⟨h1, m, h2⟩ := h
  exact ⟨Utf8Tabs_below h1 hb, m, by rw [hb.cell (p := ⟨3, 0, none⟩) (cell_lt h2)]; exact h2⟩
theorem Tab.keepB {w w' : World} {B : Nat} (h : Tab w) (hB : w.heap.size ≤ B) (hb : Below B w w') : Tab w' := h.keep (hb.mono hB)

/-- A text's bytes. -/
abbrev L (s : ByteArray) : Bytes := s.data.toList
theorem L_len (s : ByteArray) : (L s).length = s.size := (Lib.size_eq s).symm
theorem L_mk (l : Bytes) : L ⟨l.toArray⟩ = l := rfl
theorem L_eta (s : ByteArray) : (⟨(L s).toArray⟩ : ByteArray) = s := by cases s; rfl
theorem L_ext {s t : ByteArray} (h : L s = L t) : s = t := by rw [← L_eta s, ← L_eta t, h]
theorem L_ne {s : ByteArray} : L s ≠ [] ↔ 0 < s.size := by
  rw [← L_len]
  exact (List.length_pos_iff).symm
theorem get_nth (s : ByteArray) (i : Nat) : (s.get! i).toNat = nth (L s) i := by
  unfold nth L
  cases s with
  | mk d =>
    simp only [ByteArray.get!, Array.getElem!_eq_getD, Array.getD_eq_getD_getElem?]
    rw [List.getD_eq_getElem?_getD, Array.getElem?_toList]
    rfl
theorem get_at (s : ByteArray) (k : Nat) (h : k < s.size) : (s[k]'h) = (L s)[k]'(by rw [L_len]; exact h) := rfl
theorem get_at0 (s : ByteArray) (h : 0 < s.size) : (s[0]'h).toNat = nth (L s) 0 := by
  rw [get_at]
  unfold nth
  rw [List.getD_eq_getElem?_getD, List.getElem?_eq_getElem (by rw [L_len]; exact h)]
  rfl
theorem decode_L (s : ByteArray) : Utf8.decode s 0 = dec (L s) := by
  rw [Lib.decode_at, get_nth, get_nth, get_nth, get_nth]
  unfold dec
  rw [L_len]
  rfl
theorem decodeGo_L (s : ByteArray) (h : L s ≠ []) : Lib.decodeGo s = dec (L s) := by
  have := L_ne.1 h
  rw [Lib.decodeGo, if_neg (by omega), decode_L]
theorem L_extract (s : ByteArray) (a b : Nat) : L (s.extract a b) = ((L s).take b).drop a := by
  rw [L, ByteArray.data_extract, Array.toList_extract, List.extract_eq_take_drop, List.drop_take]
theorem L_from (s : ByteArray) (a : Nat) : L (s.extract a s.size) = (L s).drop a := by
  rw [L_extract, List.take_of_length_le (by rw [L_len]; exact Nat.le_refl _)]
theorem L_to (s : ByteArray) (b : Nat) : L (s.extract 0 b) = (L s).take b := by
  rw [L_extract, List.drop_zero]
theorem toList_L (s : ByteArray) : s.toList = L s := Lib.toList_data s
theorem beq_L (s t : ByteArray) : (s.toList == t.toList) = decide (L s = L t) := by
  rw [toList_L, toList_L]
  by_cases h : L s = L t
  · rw [h, beq_self_eq_true, decide_eq_true rfl]
  · rw [beq_eq_false_iff_ne.2 h, decide_eq_false h]
theorem L_data (a : Array UInt8) : L ⟨a⟩ = a.toList := rfl
end Go.Proofs.YtigkdehaepenhaaGreatDoor.Q

namespace Go.Proofs.YtigkdehaepenhaaGreatDoor.Q
open Go.ChangeShapes Go.WideShapes Go.ChangeAt Go.RowKit Go.Deep

theorem own : ownKnob Tryz.prog.godebug = none := by kernel_rfl
theorem laidOut : laidOutB Tryz.prog = true := by kernel_rfl
theorem u8Extra : U8Extra Tryz.prog Tryz.lays197_ren := { n3 := by kernel_rfl, n4 := by kernel_rfl, y3 := by kernel_rfl, y4 := by kernel_rfl, c5 := by kernel_rfl, c119 := by kernel_rfl, c138 := by kernel_rfl }
theorem first_is : (Rows.laid_unicode_utf8_first : DataW Unit) = Lib.firstData := by kernel_rfl
theorem accept_is : (Rows.laid_unicode_utf8_acceptRanges : DataW Unit) = Lib.acceptData := by kernel_rfl
theorem tab_of {W : World} (h : laidMet Tryz.prog [("unicode/utf8.acceptRanges", Rows.laid_unicode_utf8_acceptRanges), ("unicode/utf8.first", Rows.laid_unicode_utf8_first)] W) (hsh : W.ShapedOpen Tryz.prog) : Tab W := by
  refine ⟨utf8Tabs_of_reads { Tryz.lays197 with } u8Extra ?_ ?_, Tryz.laysM155.s1_3 W hsh⟩
  · rw [← first_is]; exact Lib.laidMet.reads h (by simp)
  · rw [← accept_is]; exact Lib.laidMet.reads h (by simp)
end Go.Proofs.YtigkdehaepenhaaGreatDoor.Q
