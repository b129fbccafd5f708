/-
  Plain facts on the characters of a text (a list of bytes): how long the first one is, the characters one by one, and what the chapter makes of them. Conditions: none.
  What the proofs of this seat lean on: the library's tables lie as they are laid; texts as lists of bytes; what a call keeps. Conditions: each fact's own.
  What quote.first returns: the kind and the length of a text's first character. Conditions: the text isn't empty; the library's tables lie.
  What quote.run, hasHard and allPlain return. Conditions: the text has at most 1000000 bytes; the library's tables lie.
  What quote.hasHard and allPlain return. Conditions: the text has at most 1000000 bytes; the library's tables lie.
  What quote.between and bare return. Conditions: the text has at most 1000000 bytes; the library's tables lie.
  A strings.Builder that a call has made itself: what WriteByte, WriteString and String do. Conditions: at most 1000000000 bytes.
  What the listed library variables give the walks: the two tables of unicode/utf8; and that the library's one other variable holds a number. Conditions: none.
  Plain facts on the reference's reader of one character: when it is bad, and its number else. Conditions: none.
  What quote.backslashed returns. Conditions: the text has at most 1000000 bytes; the library's tables lie.
-/
import Derived.Lib.DecodeN
import Derived.Test.YtigkdehaepenhaaGreatDoorRows
import Derived.Test.YtigkdehaepenhaaGreatDoorShelfB
import Derived.Test.YtigkdehaepenhaaGreatDoorShelf
import Derived.WalkKit
import Derived.WalkSpells
import Derived.WalkLawsBesides
import Derived.WalkMore
import Derived.ScopeJumps
import Derived.Lib.Hide
import Derived.Lib.OthersKept
import Derived.Lib.BufSteps
import Derived.Lib.LaidU8
import Derived.Test.YtigkdehaepenhaaGreatDoorCards
import Derived.Test.YtigkdehaepenhaaGreatDoorTie
import Derived.ProofKit
import Derived.OpenShut
import Derived.ShutString
import Derived.ChangeOld
import Derived.Below
import Derived.LaidMore
import Derived.Lay
import Derived.Deep.Slices
import Derived.Deep.Fields
import Derived.ChangeSame
import Derived.Deep.DeepHandedRow
import Derived.Deep.DeepWitnessRowRef
import Derived.Stop.LaidErr
set_option linter.unusedSimpArgs false
set_option linter.unusedVariables false
namespace Go.Proofs.YtigkdehaepenhaaGreatDoor.Q

abbrev Bytes := List UInt8
def nth (l : Bytes) (i : Nat) : Nat := (l.getD i 0).toNat
/-- The first character's number, and its bytes. -/
def dec (l : Bytes) : Nat × Nat := Lib.decodeN l.length (nth l 0) (nth l 1) (nth l 2) (nth l 3)
def sz (l : Bytes) : Nat := (dec l).2

theorem nth_app (c r : Bytes) (i : Nat) (h : i < c.length) : nth (c ++ r) i = nth c i := by
  unfold nth
  rw [List.getD_eq_getElem?_getD, List.getD_eq_getElem?_getD, List.getElem?_append_left h]

set_option maxRecDepth 100000 in
theorem dN_bd (n b0 b1 b2 b3 : Nat) : 1 ≤ (Lib.decodeN n b0 b1 b2 b3).2 ∧ (Lib.decodeN n b0 b1 b2 b3).2 ≤ 4 := by
  unfold Lib.decodeN
  repeat' split
  all_goals simp
set_option maxRecDepth 100000 in
theorem dN_le (n b0 b1 b2 b3 : Nat) (h : 1 ≤ n) : (Lib.decodeN n b0 b1 b2 b3).2 ≤ n := by
  unfold Lib.decodeN
  repeat' split
  all_goals first | exact h | (dsimp only; omega)
/-- What a character of more than one byte is made of. -/
def Multi (k n b0 b1 b2 b3 : Nat) : Prop :=
  (k = 2 ∧ b0 / 32 = 6 ∧ 1 < n ∧ b1 / 64 = 2 ∧ 128 ≤ b0 % 32 * 64 + b1 % 64) ∨
  (k = 3 ∧ b0 / 16 = 14 ∧ 1 < n ∧ b1 / 64 = 2 ∧ 2 < n ∧ b2 / 64 = 2 ∧ 2048 ≤ b0 % 16 * 4096 + b1 % 64 * 64 + b2 % 64 ∧ (b0 % 16 * 4096 + b1 % 64 * 64 + b2 % 64 < 55296 ∨ 57344 ≤ b0 % 16 * 4096 + b1 % 64 * 64 + b2 % 64)) ∨
  (k = 4 ∧ b0 / 8 = 30 ∧ 1 < n ∧ b1 / 64 = 2 ∧ 2 < n ∧ b2 / 64 = 2 ∧ 3 < n ∧ b3 / 64 = 2 ∧ 65536 ≤ b0 % 8 * 262144 + b1 % 64 * 4096 + b2 % 64 * 64 + b3 % 64 ∧ b0 % 8 * 262144 + b1 % 64 * 4096 + b2 % 64 * 64 + b3 % 64 ≤ 1114111)
set_option maxRecDepth 100000 in
theorem dN_multi (n b0 b1 b2 b3 : Nat) (h : 1 < (Lib.decodeN n b0 b1 b2 b3).2) : Multi (Lib.decodeN n b0 b1 b2 b3).2 n b0 b1 b2 b3 := by
  revert h
  unfold Lib.decodeN
  repeat' split
  all_goals intro h
  all_goals first | (exfalso; dsimp only at h; omega) | skip
  all_goals (unfold Multi; dsimp only; omega)
set_option maxRecDepth 100000 in
theorem dN_of (k n b0 b1 b2 b3 : Nat) (h : Multi k n b0 b1 b2 b3) : (Lib.decodeN n b0 b1 b2 b3).2 = k := by
  unfold Multi at h
  unfold Lib.decodeN
  repeat' split
  all_goals first | (exfalso; omega) | (dsimp only; omega)

theorem sz_bd (l : Bytes) : 1 ≤ sz l ∧ sz l ≤ 4 := dN_bd _ _ _ _ _
theorem sz_le (l : Bytes) (h : l ≠ []) : sz l ≤ l.length := dN_le _ _ _ _ _ (by cases l with | nil => exact absurd rfl h | cons _ _ => simp)
theorem sz_ascii (b : UInt8) (r : Bytes) (h : b.toNat < 128) : sz (b :: r) = 1 := by
  unfold sz dec Lib.decodeN
  have : nth (b :: r) 0 = b.toNat := rfl
  rw [this, if_pos h]
theorem multi_at {l : Bytes} (h : 1 < sz l) : Multi (sz l) l.length (nth l 0) (nth l 1) (nth l 2) (nth l 3) := dN_multi _ _ _ _ _ h
theorem multi_high {l : Bytes} (h : 1 < sz l) (i : Nat) (hi : i < sz l) : 128 ≤ nth l i := by
  have m := multi_at h
  unfold Multi at m
  have : i < 4 := by omega
  match i, this with
  | 0, _ => omega
  | 1, _ => omega
  | 2, _ => omega
  | 3, _ => omega
theorem multi_len {l : Bytes} (h : 1 < sz l) : sz l ≤ l.length := sz_le l (by rintro rfl; revert h; decide)
/-- A character of more than one byte is the same, whatever follows. -/
theorem sz_other {c r : Bytes} (h : 1 < sz (c ++ r)) (hc : sz (c ++ r) = c.length) (r' : Bytes) : sz (c ++ r') = c.length := by
  have m := multi_at h
  rw [hc] at m h
  refine dN_of _ _ _ _ _ _ ?_
  have e0 : nth (c ++ r') 0 = nth (c ++ r) 0 := by rw [nth_app _ _ _ (by omega), nth_app _ _ _ (by omega)]
  have e1 : nth (c ++ r') 1 = nth (c ++ r) 1 := by rw [nth_app _ _ _ (by omega), nth_app _ _ _ (by omega)]
  have e2 : 2 < c.length → nth (c ++ r') 2 = nth (c ++ r) 2 := fun h2 => by rw [nth_app _ _ _ (by omega), nth_app _ _ _ (by omega)]
  have e3 : 3 < c.length → nth (c ++ r') 3 = nth (c ++ r) 3 := fun h2 => by rw [nth_app _ _ _ (by omega), nth_app _ _ _ (by omega)]
  unfold Multi at m ⊢
  rw [List.length_append]
  rw [e0, e1]
  rcases m with m | m | m
  · left; omega
  · right; left
    rw [e2 (by omega)]; omega
  · right; right
    rw [e2 (by omega), e3 (by omega)]; omega

/-- The characters of a text, one by one; a byte that begins none stands alone. -/
def chunks (l : Bytes) : List Bytes := if h : l = [] then [] else l.take (sz l) :: chunks (l.drop (sz l))
termination_by l.length
decreasing_by
  have := sz_bd l
  have : 0 < l.length := List.length_pos_iff.2 h
  rw [List.length_drop]
  omega
theorem chunks_nil : chunks [] = [] := by rw [chunks]; simp
theorem chunks_step (l : Bytes) (h : l ≠ []) : chunks l = l.take (sz l) :: chunks (l.drop (sz l)) := by
  rw [chunks]
  simp [h]
theorem chunks_ascii (b : UInt8) (r : Bytes) (h : b.toNat < 128) : chunks (b :: r) = [b] :: chunks r := by
  rw [chunks_step _ (by simp), sz_ascii b r h]
  simp
theorem by_drop {P : Bytes → Prop} (h0 : P []) (hs : ∀ l, l ≠ [] → P (l.drop (sz l)) → P l) (l : Bytes) : P l := by
  obtain ⟨n, hn⟩ : ∃ n, l.length = n := ⟨_, rfl⟩
  induction n using Nat.strongRecOn generalizing l with
  | _ n ih =>
    by_cases h : l = []
    · subst h; exact h0
    · refine hs l h (ih _ ?_ _ rfl)
      have := sz_bd l
      have : 0 < l.length := List.length_pos_iff.2 h
      rw [List.length_drop]
      omega
theorem chunks_flat (l : Bytes) : (chunks l).flatten = l := by
  refine by_drop (P := fun l => (chunks l).flatten = l) ?_ ?_ l
  · rw [chunks_nil]; rfl
  · intro l h ih
    rw [chunks_step l h, List.flatten_cons, ih, List.take_append_drop]
theorem chunks_tail {l : Bytes} {p q : List Bytes} (h : chunks l = p ++ q) : chunks q.flatten = q := by
  induction p generalizing l with
  | nil =>
    rw [List.nil_append] at h
    rw [← h, chunks_flat]
  | cons c p ih =>
    by_cases hl : l = []
    · subst hl; rw [chunks_nil] at h; simp at h
    · rw [chunks_step l hl] at h
      simp only [List.cons_append, List.cons.injEq] at h
      exact ih h.2
/-- A character: one byte, or more of a kind that belong together whatever follows. -/
def Chr (c : Bytes) : Prop := (∃ b, c = [b]) ∨ (2 ≤ c.length ∧ (∀ r, sz (c ++ r) = c.length) ∧ ∀ b ∈ c, 128 ≤ b.toNat)
theorem chr_first (l : Bytes) (h : l ≠ []) : Chr (l.take (sz l)) := by
  have hb := sz_bd l
  have hl := sz_le l h
  by_cases h1 : sz l = 1
  · left
    rw [h1]
    cases l with
    | nil => exact absurd rfl h
    | cons b r => exact ⟨b, rfl⟩
  · right
    have hlen : (l.take (sz l)).length = sz l := by rw [List.length_take]; omega
    refine ⟨by omega, fun r => ?_, fun b hm => ?_⟩
    · rw [hlen]
      have := sz_other (c := l.take (sz l)) (r := l.drop (sz l)) (by rw [List.take_append_drop]; omega) (by rw [List.take_append_drop, hlen]) r
      rw [this, hlen]
    · obtain ⟨i, hi, rfl⟩ := List.mem_iff_getElem.1 hm
      have := multi_high (l := l) (by omega) i (by omega)
      unfold nth at this
      rw [List.getElem_take]
      rw [List.getD_eq_getElem?_getD, List.getElem?_eq_getElem (by omega)] at this
      exact this
theorem chunks_chr (l : Bytes) : ∀ c ∈ chunks l, Chr c := by
  refine by_drop (P := fun l => ∀ c ∈ chunks l, Chr c) ?_ ?_ l
  · rw [chunks_nil]; simp
  · intro l h ih c hc
    rw [chunks_step l h] at hc
    rcases List.mem_cons.1 hc with rfl | hc
    · exact chr_first l h
    · exact ih c hc
theorem Chr.ne {c : Bytes} (h : Chr c) : c ≠ [] := by
  rintro rfl
  rcases h with ⟨b, hb⟩ | h
  · cases hb
  · simp at h
theorem chunks_multi {c : Bytes} (h : 2 ≤ c.length) (hs : ∀ r, sz (c ++ r) = c.length) (r : Bytes) : chunks (c ++ r) = c :: chunks r := by
  rw [chunks_step _ (by intro e; have := congrArg List.length e; simp at this; simp [this] at h), hs r, List.take_left, List.drop_left]

/-- The plain bytes below 80. -/
def plainB (n : Nat) : Bool := (decide (65 ≤ n) && decide (n ≤ 90)) || (decide (97 ≤ n) && decide (n ≤ 122)) || (decide (48 ≤ n) && decide (n ≤ 57)) || [95, 64, 37, 43, 61, 58, 44, 46, 47, 45].contains n
/-- What a byte that stands alone is: 0 plain, 1 hard, 2 neither. -/
def kb (n : Nat) : Nat := if n < 32 ∨ 127 ≤ n then 1 else if plainB n then 0 else 2
/-- What a character is. -/
def kc : Bytes → Nat
  | [] => 2
  | [b] => kb b.toNat
  | _ => 0
theorem kc_multi {c : Bytes} (h : 2 ≤ c.length) : kc c = 0 := by
  match c, h with
  | _ :: _ :: _, _ => rfl
def hardC (c : Bytes) : Bool := kc c == 1
theorem hardC_one {c : Bytes} (hc : Chr c) (h : hardC c = true) : ∃ b, c = [b] := by
  rcases hc with hc | ⟨h2, _, _⟩
  · exact hc
  · unfold hardC at h
    rw [kc_multi h2] at h
    cases h

/-- A byte's escape. -/
def esc (b : UInt8) : Bytes := if b = 10 then [92, 110] else if b = 9 then [92, 116] else [92, 48 + b / 64, 48 + b / 8 % 8, 48 + b % 8]
/-- A byte between quotes. -/
def qb (b : UInt8) : Bytes := if b = 39 then [39, 92, 39, 39] else [b]
def bt (l : Bytes) : Bytes := 39 :: (l.flatMap qb ++ [39])
def allPlain (l : Bytes) : Bool := (chunks l).all (fun c => kc c == 0)
def hasHard (l : Bytes) : Bool := (chunks l).any hardC
def bareP (l : Bytes) : Bytes := if l ≠ [] ∧ allPlain l = true then l else bt l
def hardS (l : Bytes) : Bytes := 36 :: 39 :: (l.flatMap esc ++ [39])
/-- The stretches of a text's characters, one by one. -/
def strP (cs : List Bytes) : Bytes := if h : cs = [] then [] else
  (if cs.takeWhile (fun c => !hardC c) = [] then [] else bt (cs.takeWhile (fun c => !hardC c)).flatten) ++
  ((if (cs.dropWhile (fun c => !hardC c)).takeWhile hardC = [] then [] else hardS ((cs.dropWhile (fun c => !hardC c)).takeWhile hardC).flatten) ++
  strP ((cs.dropWhile (fun c => !hardC c)).dropWhile hardC))
termination_by cs.length
decreasing_by
  have l1 : ((cs.dropWhile (fun c => !hardC c)).dropWhile hardC).length ≤ (cs.dropWhile (fun c => !hardC c)).length := (List.dropWhile_sublist _).length_le
  have l2 : (cs.dropWhile (fun c => !hardC c)).length ≤ cs.length := (List.dropWhile_sublist _).length_le
  cases cs with
  | nil => exact absurd rfl h
  | cons c r =>
    by_cases hc : hardC c = true
    · have e : (c :: r).dropWhile (fun c => !hardC c) = c :: r := by simp [List.dropWhile, hc]
      rw [e] at l1 ⊢
      have e2 : (c :: r).dropWhile hardC = r.dropWhile hardC := by simp [List.dropWhile, hc]
      rw [e2]
      have := (List.dropWhile_sublist hardC (l := r)).length_le
      simp only [List.length_cons]
      omega
    · have e : (c :: r).dropWhile (fun c => !hardC c) = r.dropWhile (fun c => !hardC c) := by simp [List.dropWhile, hc]
      rw [e] at l1 ⊢
      have := (List.dropWhile_sublist (fun c => !hardC c) (l := r)).length_le
      simp only [List.length_cons]
      omega
/-- A character with backslashes. -/
def bsC (sign : UInt8) (c : Bytes) : Bytes := match c with
  | [] => []
  | b :: r => if hardC (b :: r) then esc b else if b = 92 ∨ b = sign then [92, b] else b :: r
def bsP (sign : UInt8) (l : Bytes) : Bytes := (chunks l).flatMap (bsC sign)
def quoteP (style : Int) (l : Bytes) : Bytes :=
  if style = 0 then l else if style = 1 then bareP l else if style = 2 then bt l
  else if style = 3 then (if hasHard l then strP (chunks l) else bareP l)
  else if style = 4 then 34 :: (bsP 34 l ++ [34]) else if style = 5 then bsP 32 l else []
end Go.Proofs.YtigkdehaepenhaaGreatDoor.Q

namespace Go.Proofs.YtigkdehaepenhaaGreatDoor.Q
open Go.RowKit

theorem below_two {w a b : World} (h : Below w.heap.size w a) (k : Below a.heap.size a b) : Below w.heap.size w b := h.trans (k.mono h.size)
theorem below_at {B : Nat} {w a b : World} (hB : B ≤ a.heap.size) (h : Below B w a) (k : Below a.heap.size a b) : Below B w b := h.trans (k.mono hB)
theorem cell_lt {w : World} {a : Addr} {v : Value} (h : w.cell? a = some v) : a.block < w.heap.size := by
  apply Classical.byContradiction
  intro hn
  have : w.heap[a.block]? = none := Array.getElem?_eq_none (by omega)
  unfold World.cell? at h
  simp [this] at h

/-- The library's tables lie; its one variable holds a number. -/
def Tab (w : World) : Prop := Lib.Utf8Tabs 5 6 w ∧ ∃ m : Int, w.cell? ⟨3, 0, none⟩ = some (.int .i64 m)
theorem Tab.keep {w w' : World} (h : Tab w) (hb : Below w.heap.size w w') : Tab w' := by
  obtain ⟨h1, m, h2⟩ := h
  exact ⟨Utf8Tabs_below h1 hb, m, by rw [hb.cell (p := ⟨3, 0, none⟩) (cell_lt h2)]; exact h2⟩
theorem Tab.keepB {w w' : World} {B : Nat} (h : Tab w) (hB : w.heap.size ≤ B) (hb : Below B w w') : Tab w' := h.keep (hb.mono hB)

/-- A text's bytes. -/
abbrev L (s : ByteArray) : Bytes := s.data.toList
theorem L_len (s : ByteArray) : (L s).length = s.size := (Lib.size_eq s).symm
theorem L_mk (l : Bytes) : L ⟨l.toArray⟩ = l := rfl
theorem L_eta (s : ByteArray) : (⟨(L s).toArray⟩ : ByteArray) = s := by cases s; rfl
theorem L_ext {s t : ByteArray} (h : L s = L t) : s = t := by rw [← L_eta s, ← L_eta t, h]
theorem L_ne {s : ByteArray} : L s ≠ [] ↔ 0 < s.size := by
  rw [← L_len]
  exact (List.length_pos_iff).symm
theorem get_nth (s : ByteArray) (i : Nat) : (s.get! i).toNat = nth (L s) i := by
  unfold nth L
  cases s with
  | mk d =>
    simp only [ByteArray.get!, Array.getElem!_eq_getD, Array.getD_eq_getD_getElem?]
    rw [List.getD_eq_getElem?_getD, Array.getElem?_toList]
    rfl
theorem get_at (s : ByteArray) (k : Nat) (h : k < s.size) : (s[k]'h) = (L s)[k]'(by rw [L_len]; exact h) := rfl
theorem get_at0 (s : ByteArray) (h : 0 < s.size) : (s[0]'h).toNat = nth (L s) 0 := by
  rw [get_at]
  unfold nth
  rw [List.getD_eq_getElem?_getD, List.getElem?_eq_getElem (by rw [L_len]; exact h)]
  rfl
theorem decode_L (s : ByteArray) : Utf8.decode s 0 = dec (L s) := by
  rw [Lib.decode_at, get_nth, get_nth, get_nth, get_nth]
  unfold dec
  rw [L_len]
  rfl
theorem decodeGo_L (s : ByteArray) (h : L s ≠ []) : Lib.decodeGo s = dec (L s) := by
  have := L_ne.1 h
  rw [Lib.decodeGo, if_neg (by omega), decode_L]
theorem L_extract (s : ByteArray) (a b : Nat) : L (s.extract a b) = ((L s).take b).drop a := by
  rw [L, ByteArray.data_extract, Array.toList_extract, List.extract_eq_take_drop, List.drop_take]
theorem L_from (s : ByteArray) (a : Nat) : L (s.extract a s.size) = (L s).drop a := by
  rw [L_extract, List.take_of_length_le (by rw [L_len]; exact Nat.le_refl _)]
theorem L_to (s : ByteArray) (b : Nat) : L (s.extract 0 b) = (L s).take b := by
  rw [L_extract, List.drop_zero]
theorem toList_L (s : ByteArray) : s.toList = L s := Lib.toList_data s
theorem beq_L (s t : ByteArray) : (s.toList == t.toList) = decide (L s = L t) := by
  rw [toList_L, toList_L]
  by_cases h : L s = L t
  · rw [h, beq_self_eq_true, decide_eq_true rfl]
  · rw [beq_eq_false_iff_ne.2 h, decide_eq_false h]
theorem L_data (a : Array UInt8) : L ⟨a⟩ = a.toList := rfl
end Go.Proofs.YtigkdehaepenhaaGreatDoor.Q

namespace Go.Proofs.YtigkdehaepenhaaGreatDoor.Q
open Go.RowKit

theorem kc_first (l : Bytes) (h : l ≠ []) : kc (l.take (sz l)) = if 1 < sz l then 0 else kb (nth l 0) := by
  have h2 := sz_le l h
  have h3 := sz_bd l
  by_cases h1 : 1 < sz l
  · rw [if_pos h1, kc_multi (by rw [List.length_take]; omega)]
  · rw [if_neg h1]
    have : sz l = 1 := by omega
    rw [this]
    cases l with
    | nil => exact absurd rfl h
    | cons b r => rfl
theorem dec_ascii {l : Bytes} (h : nth l 0 < 128) : dec l = (nth l 0, 1) := by
  unfold dec Lib.decodeN
  rw [if_pos h]
theorem sign_iff (n : Nat) : ([95, 64, 37, 43, 61, 58, 44, 46, 47, 45] : List Nat).contains n = true ↔ (n = 95 ∨ n = 64 ∨ n = 37 ∨ n = 43 ∨ n = 61 ∨ n = 58 ∨ n = 44 ∨ n = 46 ∨ n = 47 ∨ n = 45) := by
  simp
theorem idx_neg (l : List UInt8) (c : UInt8) : Lib.indexByte l c = -1 ↔ c ∉ l := by
  induction l with
  | nil => simp [Lib.indexByte]
  | cons b l ih =>
    simp only [Lib.indexByte, List.mem_cons, not_or]
    by_cases h : b = c
    · subst h; simp
    · have : (b == c) = false := beq_eq_false_iff_ne.2 h
      rw [this]
      have hp : -1 ≤ Lib.indexByte l c := by
        clear ih
        induction l with
        | nil => simp [Lib.indexByte]
        | cons b l ih =>
          simp only [Lib.indexByte]
          repeat' split
          all_goals first | omega | (rename_i h; omega)
      by_cases h2 : Lib.indexByte l c = -1
      · have := ih.1 h2
        simp [h2, this, Ne.symm h]
      · have h3 : c ∈ l := Classical.byContradiction fun hc => h2 (ih.2 hc)
        have : (Lib.indexByte l c == -1) = false := beq_eq_false_iff_ne.2 h2
        simp only [this, h3]
        simp
        omega
theorem idx_bd (l : List UInt8) (c : UInt8) : -1 ≤ Lib.indexByte l c ∧ Lib.indexByte l c < l.length := by
  induction l with
  | nil => simp [Lib.indexByte]
  | cons b l ih =>
    simp only [Lib.indexByte, List.length_cons]
    repeat' split
    all_goals omega
theorem sign_idx (b : UInt8) : (0 ≤ Lib.indexByte [95, 64, 37, 43, 61, 58, 44, 46, 47, 45] b) ↔ ([95, 64, 37, 43, 61, 58, 44, 46, 47, 45] : List Nat).contains b.toNat = true := by
  have h1 := idx_neg [95, 64, 37, 43, 61, 58, 44, 46, 47, 45] b
  have h2 := idx_bd [95, 64, 37, 43, 61, 58, 44, 46, 47, 45] b
  have h3 : b ∈ ([95, 64, 37, 43, 61, 58, 44, 46, 47, 45] : List UInt8) ↔ ([95, 64, 37, 43, 61, 58, 44, 46, 47, 45] : List Nat).contains b.toNat = true := by
    rw [sign_iff]
    simp only [List.mem_cons, List.not_mem_nil, or_false, ← UInt8.toNat_inj]
    rfl
  rw [← h3]
  by_cases h : b ∈ ([95, 64, 37, 43, 61, 58, 44, 46, 47, 45] : List UInt8)
  · have : ¬ Lib.indexByte [95, 64, 37, 43, 61, 58, 44, 46, 47, 45] b = -1 := fun e => (h1.1 e) h
    exact ⟨fun _ => h, fun _ => by omega⟩
  · have := h1.2 h
    exact ⟨fun h' => by omega, fun h' => absurd h' h⟩

def FirstEnds (s : ByteArray) (w : World) (e : Ending) (w' : World) : Prop := e = .returned (.tuple #[.int .i64 ((kc ((L s).take (sz (L s))) : Nat) : Int), .int .i64 ((sz (L s) : Nat) : Int)]) ∧ Below w.heap.size w w'
theorem first_ends {s : ByteArray} {w w' : World} {k n : Int} (h : L s ≠ []) (hk : k = ((if 1 < sz (L s) then 0 else kb (nth (L s) 0) : Nat) : Int)) (hn : n = ((sz (L s) : Nat) : Int)) (hb : Below w.heap.size w w') :
    FirstEnds s w (.returned (.tuple #[.int .i64 k, .int .i64 n])) w' := by
  subst hk; subst hn
  exact ⟨by rw [kc_first _ h], hb⟩

set_option maxHeartbeats 2000000 in
set_option maxRecDepth 100000 in
theorem first_any (s : ByteArray) (w : World) (hT : Tab w) (h : L s ≠ []) : Calls Tryz.prog 144 #[.string s] w (FirstEnds s w) := by
  have cD := Tryz.utf8_DecodeRuneInString s w hT.1
  have h0 : 0 < s.size := L_ne.1 h
  obtain ⟨c, hc⟩ : ∃ c : Nat, nth (L s) 0 = c := ⟨_, rfl⟩
  obtain ⟨b, hbt⟩ : ∃ b : UInt8, s[0]'h0 = b := ⟨_, rfl⟩
  have hbc : b.toNat = c := by rw [← hbt, get_at0 s h0, hc]
  have hc256 : c < 256 := by rw [← hbc]; exact b.toNat_lt
  obtain ⟨R, hR⟩ : ∃ R, (Lib.decodeGo s).1 = R := ⟨_, rfl⟩
  obtain ⟨K, hK⟩ : ∃ K, (Lib.decodeGo s).2 = K := ⟨_, rfl⟩
  rw [hR, hK] at cD
  rw [decodeGo_L s h] at hR hK
  have hKs : Hid (sz (L s) = K) := Lib.hid hK
  have hbd : 1 ≤ K ∧ K ≤ 4 := by rw [← hKs.out]; exact sz_bd _
  have hRc : Hid (c < 128 → R = c ∧ K = 1) := Lib.hid (fun hlt => by
    have := dec_ascii (l := L s) (by rw [hc]; exact hlt)
    rw [this] at hR hK
    rw [← hR, ← hK, hc]
    exact ⟨rfl, rfl⟩)
  clear hR hK
  have fin : ∀ (w' : World) (k n : Int), k = ((if 1 < K then 0 else kb c : Nat) : Int) → n = K → Below w.heap.size w w' → FirstEnds s w (.returned (.tuple #[.int .i64 k, .int .i64 n])) w' := by
    intro w' k n hk hn hb
    refine first_ends h ?_ ?_ hb
    · rw [hKs.out, hc]; exact hk
    · rw [hKs.out]; exact hn
  by_cases h1 : 1 < K
  · have HF := Lib.hid fin
    clear fin
    have hd : decide ((1 : Int) < (K : Int)) = true := by rw [decide_eq_true_eq]; omega
    go_enter Tryz.func144, Tryz.ntmps144
    go_wp2_with fail; refine cD.mono ?_; rintro e w' ⟨rfl, hb⟩; go_wp2_with fail
    go_ret2
    exact HF.out _ _ _ (by rw [if_pos h1]; rfl) rfl hb
  · have hK1 : K = 1 := by omega
    subst hK1
    by_cases hh : c < 32 ∨ 127 ≤ c
    · have HF := Lib.hid fin
      clear fin
      have hkb : kb c = 1 := by unfold kb; rw [if_pos hh]
      rcases hh with hh | hh
      · go_enter Tryz.func144, Tryz.ntmps144
        go_wp2_with fail; refine cD.mono ?_; rintro e w' ⟨rfl, hb⟩; go_wp2_with fail
        go_ret2
        exact HF.out _ _ _ (by rw [if_neg h1, hkb]; rfl) rfl hb
      · go_enter Tryz.func144, Tryz.ntmps144
        go_wp2_with fail; refine cD.mono ?_; rintro e w' ⟨rfl, hb⟩; go_wp2_with fail
        go_ret2
        exact HF.out _ _ _ (by rw [if_neg h1, hkb]; rfl) rfl hb
    · obtain ⟨hRR, _⟩ := hRc.out (by omega)
      subst hRR
      by_cases hl : (65 ≤ R ∧ R ≤ 90) ∨ (97 ≤ R ∧ R ≤ 122) ∨ (48 ≤ R ∧ R ≤ 57)
      · have HF := Lib.hid fin
        clear fin
        have hkb : kb R = 0 := by
          unfold kb
          rw [if_neg hh]
          have : plainB R = true := by
            unfold plainB
            simp only [Bool.or_eq_true, Bool.and_eq_true, decide_eq_true_eq]
            omega
          rw [if_pos this]
        rcases hl with hl | hl | hl
        · go_enter Tryz.func144, Tryz.ntmps144
          go_wp2_with fail; refine cD.mono ?_; rintro e w' ⟨rfl, hb⟩; go_wp2_with fail
          go_ret2
          exact HF.out _ _ _ (by rw [if_neg h1, hkb]; rfl) rfl hb
        · go_enter Tryz.func144, Tryz.ntmps144
          go_wp2_with fail; refine cD.mono ?_; rintro e w' ⟨rfl, hb⟩; go_wp2_with fail
          go_ret2
          exact HF.out _ _ _ (by rw [if_neg h1, hkb]; rfl) rfl hb
        · go_enter Tryz.func144, Tryz.ntmps144
          go_wp2_with fail; refine cD.mono ?_; rintro e w' ⟨rfl, hb⟩; go_wp2_with fail
          go_ret2
          exact HF.out _ _ _ (by rw [if_neg h1, hkb]; rfl) rfl hb
      · obtain ⟨I, hI⟩ : ∃ I, Lib.indexByte [95, 64, 37, 43, 61, 58, 44, 46, 47, 45] b = I := ⟨_, rfl⟩
        have cI : ∀ w, Calls Tryz.prog 45 #[.string ⟨#[95, 64, 37, 43, 61, 58, 44, 46, 47, 45]⟩, .int .u8 (R : Int)] w fun e w' => e = .returned (.int .i64 I) ∧ w' = w := by
          intro w
          have := Tryz.strings_IndexByte ⟨#[95, 64, 37, 43, 61, 58, 44, 46, 47, 45]⟩ (R : Int) w
          have e : (R : Int).toNat.toUInt8 = b := by
            rw [Int.toNat_natCast, ← hbc]
            simp
          rw [e] at this
          rw [← hI]
          exact this
        have hS := sign_idx b
        rw [hI, hbc] at hS
        have HS := Lib.hid hS
        have HF := Lib.hid fin
        clear fin hS
        by_cases hi : 0 ≤ I
        · have hkb : kb R = 0 := by
            unfold kb
            rw [if_neg hh]
            have : plainB R = true := by
              unfold plainB
              rw [HS.out.1 hi, Bool.or_true]
            rw [if_pos this]
          go_enter Tryz.func144, Tryz.ntmps144
          go_wp2_with fail; refine cD.mono ?_; rintro e w' ⟨rfl, hb⟩; go_wp2_with fail
          all_goals (refine (cI _).mono ?_; rintro e w2 ⟨rfl, rfl⟩; go_wp2_with fail; go_ret2; exact HF.out _ _ _ (by rw [if_neg h1, hkb]; rfl) rfl hb)
        · have hkb : kb R = 2 := by
            unfold kb
            rw [if_neg hh]
            have : plainB R = false := by
              unfold plainB
              have h2 : ([95, 64, 37, 43, 61, 58, 44, 46, 47, 45] : List Nat).contains R = false := by
                cases hb2 : ([95, 64, 37, 43, 61, 58, 44, 46, 47, 45] : List Nat).contains R with
                | false => rfl
                | true => exact absurd (HS.out.2 hb2) hi
              rw [h2]
              simp only [Bool.or_false, Bool.or_eq_false_iff, Bool.and_eq_false_iff, decide_eq_false_iff_not]
              omega
            rw [this]
            rfl
          go_enter Tryz.func144, Tryz.ntmps144
          go_wp2_with fail; refine cD.mono ?_; rintro e w' ⟨rfl, hb⟩; go_wp2_with fail
          all_goals (refine (cI _).mono ?_; rintro e w2 ⟨rfl, rfl⟩; go_wp2_with fail; go_ret2; exact HF.out _ _ _ (by rw [if_neg h1, hkb]; rfl) rfl hb)
end Go.Proofs.YtigkdehaepenhaaGreatDoor.Q

namespace Go.Proofs.YtigkdehaepenhaaGreatDoor.Q
open Go.RowKit

def intOf : Value → Int | .int _ q => q | _ => 0
def textOf : Value → ByteArray | .string s => s | _ => ⟨#[]⟩
theorem ret_int {k : IntKind} {a b : Int} (h : a = b) : Ending.returned (.int k a) = .returned (.int k b) := by rw [h]
theorem ret_bool {a b : Bool} (h : a = b) : Ending.returned (.bool a) = .returned (.bool b) := by rw [h]
theorem ret_str {a b : ByteArray} (h : a = b) : Ending.returned (.string a) = .returned (.string b) := by rw [h]

/-- How long the stretch is with which a text begins. -/
def runP (h : Bool) (l : Bytes) : Nat := ((chunks l).takeWhile (fun c => hardC c == h)).flatten.length
theorem runP_nil (h : Bool) : runP h [] = 0 := by unfold runP; rw [chunks_nil]; rfl
theorem runP_stop {h : Bool} {l : Bytes} (hl : l ≠ []) (hc : hardC (l.take (sz l)) ≠ h) : runP h l = 0 := by
  unfold runP
  rw [chunks_step l hl]
  have : (hardC (l.take (sz l)) == h) = false := beq_eq_false_iff_ne.2 hc
  simp [List.takeWhile, this]
theorem runP_step {h : Bool} {l : Bytes} (hl : l ≠ []) (hc : hardC (l.take (sz l)) = h) : runP h l = sz l + runP h (l.drop (sz l)) := by
  unfold runP
  rw [chunks_step l hl]
  have : (hardC (l.take (sz l)) == h) = true := by rw [hc]; exact beq_self_eq_true h
  have h2 := sz_le l hl
  simp only [List.takeWhile, this, List.flatten_cons, List.length_append, List.length_take]
  omega
theorem drop_ne {l : Bytes} {p : Nat} (h : p < l.length) : l.drop p ≠ [] := by
  intro e
  have := congrArg List.length e
  simp at this
  omega
theorem first_at (s : ByteArray) (p K k : Nat) (w : World) (hT : Tab w) (h : p < s.size) (hK : sz ((L s).drop p) = K) (hk : kc (((L s).drop p).take K) = k) :
    Calls Tryz.prog 144 #[.string (s.extract p s.size)] w fun e w' => e = .returned (.tuple #[.int .i64 (k : Int), .int .i64 (K : Int)]) ∧ Below w.heap.size w w' := by
  have h1 : L (s.extract p s.size) ≠ [] := by rw [L_from]; exact drop_ne (by rw [L_len]; exact h)
  refine (first_any (s.extract p s.size) w hT h1).mono ?_
  rintro e w' ⟨rfl, hb⟩
  rw [L_from, hK, hk]
  exact ⟨rfl, hb⟩
theorem first_of (s : ByteArray) (K k : Nat) (w : World) (hT : Tab w) (h : L s ≠ []) (hK : sz (L s) = K) (hk : kc ((L s).take K) = k) :
    Calls Tryz.prog 144 #[.string s] w fun e w' => e = .returned (.tuple #[.int .i64 (k : Int), .int .i64 (K : Int)]) ∧ Below w.heap.size w w' := by
  refine (first_any s w hT h).mono ?_
  rintro e w' ⟨rfl, hb⟩
  rw [hK, hk]
  exact ⟨rfl, hb⟩

def RunRel (s : ByteArray) (h : Bool) (w : World) (v : Value) (w' : World) : Prop := ∃ p : Nat, p ≤ s.size ∧ v = .int .i64 (p : Int) ∧ p + runP h ((L s).drop p) = runP h (L s) ∧ Below w.heap.size w w'

set_option maxHeartbeats 1000000 in
set_option maxRecDepth 100000 in
theorem run_any (s : ByteArray) (h : Bool) (w : World) (hT : Tab w) (hs : s.size ≤ 1000000) :
    Calls Tryz.prog 141 #[.string s, .bool h] w fun e w' => e = .returned (.int .i64 ((runP h (L s) : Nat) : Int)) ∧ Below w.heap.size w w' := by
  go_enter Tryz.func141, Tryz.ntmps141
  go_wp2
  go_loopw [5] (RunRel s h w) (fun i _ => s.size - (intOf i).toNat)
  case atStart => exact ⟨0, Nat.zero_le _, rfl, by rw [List.drop_zero, Nat.zero_add], Below.refl _ _⟩
  case round =>
    obtain ⟨p, hp, rfl, hr, hb⟩ := hrel
    have HB := Lib.hid hb
    have HR := Lib.hid hr
    clear hb hr
    by_cases hlt : p < s.size
    · have hne := Lib.hid (drop_ne (l := L s) (p := p) (by rw [L_len]; exact hlt))
      obtain ⟨K, hK⟩ : ∃ K, sz ((L s).drop p) = K := ⟨_, rfl⟩
      obtain ⟨k, hk⟩ : ∃ k, kc (((L s).drop p).take K) = k := ⟨_, rfl⟩
      have cF := first_at s p K k wr (hT.keep HB.out) hlt hK hk
      have hbd : 1 ≤ K ∧ K ≤ 4 := by rw [← hK]; exact sz_bd _
      have hle : p + K ≤ s.size := by
        have h1 := sz_le _ hne.out
        rw [hK, List.length_drop, L_len] at h1
        omega
      have HK := Lib.hid hK
      have HH : Hid (hardC (((L s).drop p).take K) = (((k : Nat) : Int) == 1)) := Lib.hid (by
        unfold hardC
        rw [hk]
        by_cases h1 : k = 1
        · subst h1; rfl
        · rw [beq_eq_false_iff_ne.2 h1, beq_eq_false_iff_ne.2 (by omega)])
      clear hK hk
      go_wp2_with fail
      refine cF.mono ?_
      rintro e w2 ⟨rfl, hb2⟩
      have HB2 := Lib.hid (below_two HB.out hb2)
      clear hb2
      by_cases hq : (((k : Nat) : Int) == 1) = h
      · subst hq
        go_wp2_with fail
        all_goals try (exfalso; simp_all; done)
        go_roundw
        case rel =>
          refine ⟨p + K, hle, by go_num, ?_, HB2.out⟩
          rw [← HR.out, runP_step hne.out (by rw [HK.out]; exact HH.out), HK.out, List.drop_drop]
          omega
        case measure => simp [intOf]; omega
      · have hq2 : ((((k : Nat) : Int) == 1) != h) = true := by simp [bne, hq]
        go_wp2_with fail
        all_goals try (exfalso; simp_all; done)
        go_ret
        refine ⟨ret_int ?_, HB2.out⟩
        have h0 := runP_stop (h := h) hne.out (by rw [HK.out, HH.out]; exact hq)
        have := HR.out
        rw [h0] at this
        omega
    · go_wp2
      go_ret
      refine ⟨ret_int ?_, HB.out⟩
      have h0 : (L s).drop p = [] := List.drop_eq_nil_of_le (by rw [L_len]; omega)
      have := HR.out
      rw [h0, runP_nil] at this
      omega
end Go.Proofs.YtigkdehaepenhaaGreatDoor.Q

namespace Go.Proofs.YtigkdehaepenhaaGreatDoor.Q
open Go.RowKit

theorem flat_pos {cs : List Bytes} (hc : ∀ c ∈ cs, Chr c) (h : cs ≠ []) : 0 < cs.flatten.length := by
  cases cs with
  | nil => exact absurd rfl h
  | cons c r =>
    have := (hc c (by simp)).ne
    rw [List.flatten_cons, List.length_append]
    have := List.length_pos_iff.2 this
    omega
theorem run_split (h : Bool) (l : Bytes) : l = ((chunks l).takeWhile (fun c => hardC c == h)).flatten ++ ((chunks l).dropWhile (fun c => hardC c == h)).flatten := by
  conv => lhs; rw [← chunks_flat l, ← List.takeWhile_append_dropWhile (p := fun c => hardC c == h) (l := chunks l)]
  rw [List.flatten_append]
theorem any_iff (cs : List Bytes) : (cs.any hardC = true) ↔ cs.dropWhile (fun c => hardC c == false) ≠ [] := by
  induction cs with
  | nil => simp
  | cons c r ih =>
    cases hc : hardC c with
    | true => simp [List.dropWhile, hc]
    | false =>
      simp only [List.any_cons, hc, Bool.false_or, List.dropWhile, beq_self_eq_true]
      exact ih
theorem hasHard_iff (l : Bytes) : hasHard l = decide (runP false l < l.length) := by
  have h1 := run_split false l
  have h2 : l.length = runP false l + ((chunks l).dropWhile (fun c => hardC c == false)).flatten.length := by
    conv => lhs; rw [h1, List.length_append]
    rfl
  have h3 := any_iff (chunks l)
  unfold hasHard
  by_cases h : (chunks l).dropWhile (fun c => hardC c == false) = []
  · rw [h] at h2
    simp only [List.flatten_nil, List.length_nil] at h2
    rw [decide_eq_false (by omega)]
    cases hb : (chunks l).any hardC with
    | false => rfl
    | true => exact absurd h (h3.1 hb)
  · have h4 := flat_pos (fun c hc => chunks_chr l c ((List.dropWhile_sublist _).subset hc)) h
    rw [decide_eq_true (by omega)]
    exact h3.2 h
theorem allPlain_nil : allPlain [] = true := by unfold allPlain; rw [chunks_nil]; rfl
theorem allPlain_step {l : Bytes} (h : l ≠ []) : allPlain l = ((kc (l.take (sz l)) == 0) && allPlain (l.drop (sz l))) := by
  unfold allPlain
  rw [chunks_step l h]
  rfl
theorem empty_true {s : ByteArray} (h : L s = []) : s.toList.isEmpty = true := by rw [toList_L, h]; rfl
theorem empty_false {s : ByteArray} (h : L s ≠ []) : s.toList.isEmpty = false := by
  rw [toList_L]
  cases hl : L s with
  | nil => exact absurd hl h
  | cons _ _ => rfl

set_option maxHeartbeats 1000000 in
theorem hasHard_any (s : ByteArray) (w : World) (hT : Tab w) (hs : s.size ≤ 1000000) :
    Calls Tryz.prog 127 #[.string s] w fun e w' => e = .returned (.bool (hasHard (L s))) ∧ Below w.heap.size w w' := by
  have cR := run_any s false w hT hs
  have HH := Lib.hid (hasHard_iff (L s))
  generalize runP false (L s) = n at *
  go_enter Tryz.func127, Tryz.ntmps127
  go_wp2_with fail
  refine cR.mono ?_
  rintro e w2 ⟨rfl, hb⟩
  go_wp2_with fail
  go_ret
  refine ⟨ret_bool ?_, hb⟩
  rw [HH.out, L_len]
  first | done | exact decide_eq_decide.2 (by omega)

def PlainRel (s : ByteArray) (w : World) (v : Value) (w' : World) : Prop := ∃ t : ByteArray, v = .string t ∧ t.size ≤ s.size ∧ allPlain (L t) = allPlain (L s) ∧ Below w.heap.size w w'

set_option maxHeartbeats 1000000 in
set_option maxRecDepth 100000 in
theorem allPlain_any (s : ByteArray) (w : World) (hT : Tab w) (hs : s.size ≤ 1000000) :
    Calls Tryz.prog 139 #[.string s] w fun e w' => e = .returned (.bool (allPlain (L s))) ∧ Below w.heap.size w w' := by
  go_enter Tryz.func139, Tryz.ntmps139
  go_wp2
  go_loopw [0] (PlainRel s w) (fun v _ => (textOf v).size)
  case atStart => exact ⟨s, rfl, Nat.le_refl _, rfl, Below.refl _ _⟩
  case round =>
    obtain ⟨t, rfl, hts, hr, hb⟩ := hrel
    have HB := Lib.hid hb
    have HR := Lib.hid hr
    clear hb hr
    by_cases hne : L t = []
    · have he := empty_true hne
      go_wp2
      go_ret
      refine ⟨ret_bool ?_, HB.out⟩
      rw [← HR.out, hne, allPlain_nil]
    · have he := empty_false hne
      have HN := Lib.hid hne
      obtain ⟨K, hK⟩ : ∃ K, sz (L t) = K := ⟨_, rfl⟩
      obtain ⟨k, hk⟩ : ∃ k, kc ((L t).take K) = k := ⟨_, rfl⟩
      have cF := first_of t K k wr (hT.keep HB.out) hne hK hk
      have hbd : 1 ≤ K ∧ K ≤ 4 := by rw [← hK]; exact sz_bd _
      have hle : K ≤ t.size := by
        have h1 := sz_le _ hne
        rw [hK, L_len] at h1
        omega
      have HP : Hid (allPlain (L t) = ((k == 0) && allPlain ((L t).drop K))) := Lib.hid (by rw [allPlain_step hne, hK, hk])
      clear hK hk hne
      go_wp2_with fail
      refine cF.mono ?_
      rintro e w2 ⟨rfl, hb2⟩
      have HB2 := Lib.hid (below_two HB.out hb2)
      clear hb2
      by_cases hq : k = 0
      · subst hq
        go_wp2_with fail
        go_roundw
        case rel =>
          refine ⟨t.extract K t.size, rfl, ?_, ?_, HB2.out⟩
          · rw [← L_len, L_from, List.length_drop, L_len]; omega
          · rw [← HR.out, HP.out, L_from]; rfl
        case measure =>
          show (t.extract K t.size).size < t.size
          rw [← L_len, L_from, List.length_drop, L_len]; omega
      · have hq2 : (((k : Nat) : Int) == 0) = false := beq_eq_false_iff_ne.2 (by omega)
        go_wp2_with fail
        go_ret
        refine ⟨ret_bool ?_, HB2.out⟩
        rw [← HR.out, HP.out, beq_eq_false_iff_ne.2 hq]
        rfl
end Go.Proofs.YtigkdehaepenhaaGreatDoor.Q

namespace Go.Proofs.YtigkdehaepenhaaGreatDoor.Q
open Go.RowKit

/-- The text of bytes. -/
def T (l : Bytes) : ByteArray := ⟨l.toArray⟩
theorem L_T (l : Bytes) : L (T l) = l := rfl
theorem T_L (s : ByteArray) : T (L s) = s := L_eta s
theorem T_size (l : Bytes) : (T l).size = l.length := by rw [← L_len]; rfl
theorem L_add (a b : ByteArray) : L (a ++ b) = L a ++ L b := by
  show (a ++ b).data.toList = _
  rw [ByteArray.data_append, Array.toList_append]
theorem T_add (a b : Bytes) : T a ++ T b = T (a ++ b) := L_ext (by rw [L_add]; rfl)

theorem idx_split : ∀ (l : Bytes) (c : UInt8) (i : Nat), Lib.indexByte l c = (i : Int) → i < l.length ∧ c ∉ l.take i ∧ l.drop i = c :: l.drop (i + 1)
  | [], c, i, h => by simp only [Lib.indexByte] at h; omega
  | b :: l, c, i, h => by
    simp only [Lib.indexByte] at h
    by_cases hb : b = c
    · subst hb
      rw [if_pos (beq_self_eq_true b)] at h
      obtain rfl : i = 0 := by omega
      exact ⟨by simp, by simp, rfl⟩
    · have h1 : ¬ (b == c) = true := by simp [hb]
      rw [if_neg h1] at h
      by_cases h2 : (Lib.indexByte l c == -1) = true
      · rw [if_pos h2] at h; omega
      · rw [if_neg h2] at h
        obtain ⟨j, rfl⟩ : ∃ j, i = j + 1 := ⟨i - 1, by
          have := (idx_bd l c).1
          have : Lib.indexByte l c ≠ -1 := fun e => h2 (by rw [e]; rfl)
          omega⟩
        obtain ⟨p1, p2, p3⟩ := idx_split l c j (by omega)
        refine ⟨by simp; omega, ?_, ?_⟩
        · rw [List.take_succ_cons, List.mem_cons, not_or]
          exact ⟨Ne.symm hb, p2⟩
        · rw [List.drop_succ_cons, List.drop_succ_cons]; exact p3
theorem idx_none {l : Bytes} {c : UInt8} (h : Lib.indexByte l c < 0) : c ∉ l := (idx_neg l c).1 (by have := (idx_bd l c).1; omega)
theorem qb_none : ∀ {l : Bytes}, (39 : UInt8) ∉ l → l.flatMap qb = l
  | [], _ => rfl
  | b :: l, h => by
    rw [List.mem_cons, not_or] at h
    rw [List.flatMap_cons, qb_none h.2]
    unfold qb
    rw [if_neg (Ne.symm h.1)]
    rfl
theorem rep_all (l : Bytes) : Lib.replaceK [39] [39, 92, 39, 39] (Lib.count l [39]) l = l.flatMap qb := by
  obtain ⟨n, hn⟩ : ∃ n, l.length = n := ⟨_, rfl⟩
  induction n using Nat.strongRecOn generalizing l with
  | _ n ih =>
    by_cases h : Lib.indexByte l 39 < 0
    · have h1 : Lib.index l [39] = -1 := by rw [Lib.index_one]; have := (idx_bd l 39).1; omega
      rw [Lib.count_miss h1]
      rw [qb_none (idx_none h)]
      rfl
    · obtain ⟨i, hi⟩ : ∃ i : Nat, Lib.indexByte l 39 = i := ⟨(Lib.indexByte l 39).toNat, by omega⟩
      have h1 : Lib.index l [39] = (i : Int) := by rw [Lib.index_one, hi]
      obtain ⟨p1, p2, p3⟩ := idx_split l 39 i hi
      rw [Lib.count_hit (by simp) h1, Nat.add_comm, Lib.replaceK_hit _ _ _ _ i h1]
      simp only [List.length_cons, List.length_nil, Nat.zero_add]
      rw [ih _ (by rw [List.length_drop]; omega) _ rfl]
      conv => rhs; rw [← List.take_append_drop i l, p3, List.flatMap_append, List.flatMap_cons, qb_none p2]
      simp [qb]
theorem replaceAll_qb (l : Bytes) : Lib.replaceAll l [39] [39, 92, 39, 39] = l.flatMap qb := by
  unfold Lib.replaceAll Lib.replace Lib.replaceNum
  have : (([39] : List UInt8) == [39, 92, 39, 39]) = false := by decide
  rw [this, if_neg (by decide), if_pos (Or.inl (by decide)), rep_all]
theorem qb_len (l : Bytes) : (l.flatMap qb).length ≤ 4 * l.length := by
  induction l with
  | nil => simp
  | cons b l ih =>
    rw [List.flatMap_cons, List.length_append, List.length_cons]
    have : (qb b).length ≤ 4 := by unfold qb; split <;> simp
    omega
theorem bt_len (l : Bytes) : (bt l).length ≤ 4 * l.length + 2 := by
  have := qb_len l
  unfold bt
  simp only [List.length_cons, List.length_append, List.length_nil]
  omega

set_option maxHeartbeats 1000000 in
set_option maxRecDepth 100000 in
theorem between_any (s : ByteArray) (w : World) (hT : Tab w) (hs : s.size ≤ 1000000) :
    Calls Tryz.prog 126 #[.string s] w fun e w' => e = .returned (.string (T (bt (L s)))) ∧ Below w.heap.size w w' := by
  obtain ⟨_, m, hm⟩ := hT
  have hcount := Lib.countB_mul_le ⟨#[39]⟩ (by decide) s.size s (Nat.le_refl _)
  have h39 : (ByteArray.mk #[39]).size = 1 := rfl
  have h4 : (ByteArray.mk #[39, 92, 39, 39]).size = 4 := rfl
  have cR : Calls Tryz.prog 140 #[.string s, .string ⟨#[39]⟩, .string ⟨#[39, 92, 39, 39]⟩] w fun e w' => e = .returned (.string (T ((L s).flatMap qb))) ∧ Below w.heap.size w w' := by
    refine (Tryz.strings_ReplaceAll s ⟨#[39]⟩ ⟨#[39, 92, 39, 39]⟩ m w (by omega) hm (by decide) (by rw [h39] at hcount; rw [h4]; omega)).mono ?_
    rintro e w' ⟨rfl, hb⟩
    refine ⟨ret_str ?_, hb⟩
    exact L_ext (replaceAll_qb (L s))
  have hz := qb_len (L s)
  rw [L_len] at hz
  have hfin : T ([39] ++ (L s).flatMap qb ++ [39]) = T (bt (L s)) := rfl
  generalize (L s).flatMap qb = q at *
  have ha1 : ∀ w : World, (Op.stringOp .add ⟨#[39]⟩ (T q)).run Tryz.prog w = .ok (.string (⟨#[39]⟩ ++ T q)) w := fun w => run_string_add_sum w _ _ (by rw [h39, T_size]; omega)
  have ha2 : ∀ w : World, (Op.stringOp .add (⟨#[39]⟩ ++ T q) ⟨#[39]⟩).run Tryz.prog w = .ok (.string (⟨#[39]⟩ ++ T q ++ ⟨#[39]⟩)) w := fun w => run_string_add_sum w _ _ (by rw [ByteArray.size_append, h39, T_size]; omega)
  go_enter Tryz.func126, Tryz.ntmps126
  go_wp2_with fail
  refine cR.mono ?_
  rintro e w2 ⟨rfl, hb⟩
  go_wp2_with fail
  go_ret
  refine ⟨ret_str ?_, hb⟩
  rw [← hfin]
  exact L_ext (by rw [L_add, L_add]; rfl)

theorem bare_len (l : Bytes) : (bareP l).length ≤ 4 * l.length + 2 := by
  have := bt_len l
  unfold bareP
  split <;> omega

set_option maxHeartbeats 1000000 in
set_option maxRecDepth 100000 in
theorem bare_any (s : ByteArray) (w : World) (hT : Tab w) (hs : s.size ≤ 1000000) :
    Calls Tryz.prog 125 #[.string s] w fun e w' => e = .returned (.string (T (bareP (L s)))) ∧ Below w.heap.size w w' := by
  by_cases hne : L s = []
  · have he := empty_true hne
    have cB := between_any s w hT hs
    have HF : Hid (bareP (L s) = bt (L s)) := Lib.hid (by unfold bareP; rw [if_neg (by simp [hne])])
    generalize bt (L s) = q at *
    go_enter Tryz.func125, Tryz.ntmps125
    go_wp2_with fail
    refine cB.mono ?_
    rintro e w2 ⟨rfl, hb⟩
    go_wp2_with fail
    go_ret
    exact ⟨by rw [HF.out]; rfl, hb⟩
  · have he := empty_false hne
    have cA := allPlain_any s w hT hs
    have HP : Hid (∀ b, allPlain (L s) = b → bareP (L s) = if b then L s else bt (L s)) := Lib.hid (fun b hb => by
      unfold bareP
      cases b with
      | true => rw [if_pos ⟨hne, hb⟩]; rfl
      | false => rw [if_neg (by simp [hb])]; rfl)
    obtain ⟨p, hp⟩ : ∃ p, allPlain (L s) = p := ⟨_, rfl⟩
    rw [hp] at cA
    have HB := Lib.hid (HP.out p hp)
    clear hp HP
    cases p with
    | true =>
      go_enter Tryz.func125, Tryz.ntmps125
      go_wp2_with fail
      refine cA.mono ?_
      rintro e w2 ⟨rfl, hb⟩
      go_wp2_with fail
      go_ret
      exact ⟨by rw [HB.out]; exact ret_str (T_L s).symm, hb⟩
    | false =>
      go_enter Tryz.func125, Tryz.ntmps125
      go_wp2_with fail
      refine cA.mono ?_
      rintro e w2 ⟨rfl, hb⟩
      go_wp2_with fail
      refine (between_any s w2 (hT.keep hb) hs).mono ?_
      rintro e w3 ⟨rfl, hb3⟩
      go_wp2_with fail
      go_ret
      exact ⟨by rw [HB.out]; rfl, below_two hb hb3⟩
end Go.Proofs.YtigkdehaepenhaaGreatDoor.Q

namespace Go.Proofs.YtigkdehaepenhaaGreatDoor.Q
open Go.RowKit

/-- In w the builder at b, made behind W0, holds l; nothing of W0 has changed. -/
def Bld (W0 : World) (b : Nat) (l : Bytes) (w : World) : Prop := Lib.IsBuilderF 106 5 W0.heap.size b (Lib.byteCells l) w ∧ Below W0.heap.size W0 w ∧ W0.heap.size ≤ w.heap.size

theorem at_keep {T e : TypeId} {B b : Nat} {p : Value} {bs : List Value} {w w' : World} (h : Lib.BuilderAtF T e B b p bs w) (hb : Below w.heap.size w w') : Lib.BuilderAtF T e B b p bs w' := by
  have hlt := h.lt
  obtain ⟨hB, v, hbk, hown, hne⟩ := h
  refine ⟨hB, v, (hb.block b hlt).trans hbk, ?_, hne⟩
  exact hown.kept (row := none) ⟨hb.os, hb.tape, hb.output, hb.size, fun k hk _ => hb.block k hk⟩ (by cases v.ownBlock <;> simp)
theorem Bld.keep {W0 : World} {b : Nat} {l : Bytes} {w w' : World} (h : Bld W0 b l w) (hb : Below w.heap.size w w') : Bld W0 b l w' := by
  obtain ⟨h1, h2, h3⟩ := h
  refine ⟨?_, h2.trans (hb.mono h3), Nat.le_trans h3 hb.size⟩
  rcases h1 with h1 | h1
  · exact .inl (at_keep h1 hb)
  · exact .inr (at_keep h1 hb)
theorem Bld.tab {W0 : World} {b : Nat} {l : Bytes} {w : World} (h : Bld W0 b l w) (hT : Tab W0) : Tab w := hT.keep h.2.1

theorem Bld.made (W0 : World) : Bld W0 W0.heap.size [] (W0.alloc (.cells #[.pointer none, .slice none 0 0] 106)) := by
  refine ⟨.inl ⟨Nat.le_refl _, .slice none 0 0, ?_, World.ownsRowF_nil _ _ _ _, by simp [Value.ownBlock]⟩, (Below.refl _ _).alloc (Nat.le_refl _) _, by simp⟩
  exact heap_alloc_new _ _

theorem Bld.writeByte {W0 : World} {b : Nat} {l : Bytes} {w : World} (h : Bld W0 b l w) (hl : l.length ≤ 1000000000) (c : UInt8) (n : Int) (hn : n = (c.toNat : Int)) :
    Calls Tryz.prog 143 #[.pointer (some ⟨b, 0, none⟩), .int .u8 n] w fun e w' => e = .returned .nilIface ∧ Bld W0 b (l ++ [c]) w' := by
  subst hn
  obtain ⟨h1, h2, h3⟩ := h
  refine (Any.Builder_WriteByte_k Tryz.laysB167 Tryz.Builder_Extra_B W0.heap.size b (Lib.byteCells l) (c.toNat : Int) w h1 (by rw [Lib.byteCells_length]; omega) h3).mono ?_
  rintro e w' ⟨rfl, hA, hb, _⟩
  refine ⟨rfl, .inr ?_, h2.trans hb, Nat.le_trans h3 hb.size⟩
  rw [Lib.byteCells_append]
  exact hA
theorem Bld.writeString {W0 : World} {b : Nat} {l : Bytes} {w : World} (h : Bld W0 b l w) (hl : l.length ≤ 1000000000) (s : ByteArray) (hs : s.size ≤ 1000000000) :
    Calls Tryz.prog 46 #[.pointer (some ⟨b, 0, none⟩), .string s] w fun e w' => (∃ v, e = .returned v) ∧ Bld W0 b (l ++ L s) w' := by
  obtain ⟨h1, h2, h3⟩ := h
  refine (Any.Builder_WriteString_k Tryz.laysB166 Tryz.Builder_Extra_B W0.heap.size b (Lib.byteCells l) s w h1 (by rw [Lib.byteCells_length]; omega) h3).mono ?_
  rintro e w' ⟨rfl, hA, hb, _⟩
  refine ⟨⟨_, rfl⟩, .inr ?_, h2.trans hb, Nat.le_trans h3 hb.size⟩
  rw [Lib.byteCells_append]
  exact hA
theorem Bld.string {W0 : World} {b : Nat} {l : Bytes} {w : World} (h : Bld W0 b l w) :
    Calls Tryz.prog 47 #[.pointer (some ⟨b, 0, none⟩)] w fun e w' => e = .returned (.string (T l)) ∧ Below W0.heap.size W0 w' := by
  obtain ⟨h1, h2, h3⟩ := h
  refine (Any.Builder_String_any_k Tryz.laysB169 Tryz.Builder_Extra_B W0.heap.size b l w h1 h3).mono ?_
  rintro e w' ⟨rfl, _, hb, _⟩
  exact ⟨rfl, h2.trans hb⟩

theorem esc_len (b : UInt8) : (esc b).length ≤ 4 := by unfold esc; repeat' split
                                                       all_goals simp

set_option maxHeartbeats 1000000 in
set_option maxRecDepth 100000 in
theorem writeEscape_any {W0 : World} {b : Nat} {l : Bytes} {w : World} (h : Bld W0 b l w) (hl : l.length ≤ 900000000) (c : UInt8) :
    Calls Tryz.prog 142 #[.pointer (some ⟨b, 0, none⟩), .int .u8 (c.toNat : Int)] w fun e w' => e = .returned (.tuple #[]) ∧ Bld W0 b (l ++ esc c) w' := by
  have hc := c.toNat_lt
  obtain ⟨n, hn⟩ : ∃ n, c.toNat = n := ⟨_, rfl⟩
  have h1 := h.writeByte (by omega) 92 92 rfl
  by_cases h10 : n = 10
  · have he : esc c = [92] ++ [110] := by
      have : c = 10 := UInt8.toNat_inj.1 (by rw [hn, h10]; rfl)
      subst this; rfl
    rw [hn, h10]
    go_enter Tryz.func142, Tryz.ntmps142
    go_wp2_with fail
    refine h1.mono ?_
    rintro e w2 ⟨rfl, h2⟩
    go_wp2_with fail
    refine (h2.writeByte (by simp; omega) 110 110 rfl).mono ?_
    rintro e w3 ⟨rfl, h3⟩
    go_wp2_with fail
    go_end0
    refine ⟨rfl, ?_⟩
    rw [he, ← List.append_assoc]
    exact h3
  · by_cases h9 : n = 9
    · have he : esc c = [92] ++ [116] := by
        have : c = 9 := UInt8.toNat_inj.1 (by rw [hn, h9]; rfl)
        subst this; rfl
      rw [hn, h9]
      go_enter Tryz.func142, Tryz.ntmps142
      go_wp2_with fail
      refine h1.mono ?_
      rintro e w2 ⟨rfl, h2⟩
      go_wp2_with fail
      refine (h2.writeByte (by simp; omega) 116 116 rfl).mono ?_
      rintro e w3 ⟨rfl, h3⟩
      go_wp2_with fail
      go_end0
      refine ⟨rfl, ?_⟩
      rw [he, ← List.append_assoc]
      exact h3
    · have he : Hid (esc c = [92] ++ [48 + c / 64] ++ [48 + c / 8 % 8] ++ [48 + c % 8]) := Lib.hid (by
        unfold esc
        rw [if_neg (fun e => h10 (by rw [← hn, e]; rfl)), if_neg (fun e => h9 (by rw [← hn, e]; rfl))]
        rfl)
      have d1 : Hid ((48 + c / 64 : UInt8).toNat = 48 + n / 64) := Lib.hid (by
        rw [UInt8.toNat_add, UInt8.toNat_div, hn]; show (48 + n / 64) % 256 = _; omega)
      have d2 : Hid ((48 + c / 8 % 8 : UInt8).toNat = 48 + n / 8 % 8) := Lib.hid (by
        rw [UInt8.toNat_add, UInt8.toNat_mod, UInt8.toNat_div, hn]; show (48 + n / 8 % 8) % 256 = _; omega)
      have d3 : Hid ((48 + c % 8 : UInt8).toNat = 48 + n % 8) := Lib.hid (by
        rw [UInt8.toNat_add, UInt8.toNat_mod, hn]; show (48 + n % 8) % 256 = _; omega)
      have q1 : ((n : Int) == 10) = false := beq_eq_false_iff_ne.2 (by omega)
      have q2 : ((n : Int) == 9) = false := beq_eq_false_iff_ne.2 (by omega)
      rw [hn]
      go_enter Tryz.func142, Tryz.ntmps142
      go_wp2_with fail
      refine h1.mono ?_
      rintro e w2 ⟨rfl, h2⟩
      go_wp2_with fail
      refine (h2.writeByte (by simp; omega) (48 + c / 64) _ ?_).mono ?_
      · rw [d1.out]; omega
      rintro e w3 ⟨rfl, h3⟩
      go_wp2_with fail
      refine (h3.writeByte (by simp; omega) (48 + c / 8 % 8) _ ?_).mono ?_
      · rw [d2.out]; omega
      rintro e w4 ⟨rfl, h4⟩
      go_wp2_with fail
      refine (h4.writeByte (by simp; omega) (48 + c % 8) _ ?_).mono ?_
      · rw [d3.out]; omega
      rintro e w5 ⟨rfl, h5⟩
      go_wp2_with fail
      go_end0
      refine ⟨rfl, ?_⟩
      rw [he.out, ← List.append_assoc, ← List.append_assoc, ← List.append_assoc]
      exact h5
end Go.Proofs.YtigkdehaepenhaaGreatDoor.Q

namespace Go.Proofs.YtigkdehaepenhaaGreatDoor.Q
open Go.ChangeShapes Go.WideShapes Go.ChangeAt Go.RowKit Go.Deep

theorem own : ownKnob Tryz.prog.godebug = none := by kernel_rfl
theorem laidOut : laidOutB Tryz.prog = true := by kernel_rfl
theorem u8Extra : U8Extra Tryz.prog Tryz.lays197_ren := { n3 := by kernel_rfl, n4 := by kernel_rfl, y3 := by kernel_rfl, y4 := by kernel_rfl, c5 := by kernel_rfl, c119 := by kernel_rfl, c138 := by kernel_rfl }
theorem first_is : (Rows.laid_unicode_utf8_first : DataW Unit) = Lib.firstData := by kernel_rfl
theorem accept_is : (Rows.laid_unicode_utf8_acceptRanges : DataW Unit) = Lib.acceptData := by kernel_rfl
theorem tab_of {W : World} (h : laidMet Tryz.prog [("unicode/utf8.acceptRanges", Rows.laid_unicode_utf8_acceptRanges), ("unicode/utf8.first", Rows.laid_unicode_utf8_first)] W) (hsh : W.ShapedOpen Tryz.prog) : Tab W := by
  refine ⟨utf8Tabs_of_reads { Tryz.lays197 with } u8Extra ?_ ?_, Tryz.laysM155.s1_3 W hsh⟩
  · rw [← first_is]; exact Lib.laidMet.reads h (by simp)
  · rw [← accept_is]; exact Lib.laidMet.reads h (by simp)
end Go.Proofs.YtigkdehaepenhaaGreatDoor.Q

namespace Go.Proofs.YtigkdehaepenhaaGreatDoor.Q

/-- The character's number, -1 of a bad one. -/
def nextR (s : ByteArray) : Int := if 128 ≤ (s.get! 0).toNat ∧ (Utf8.decode s 0).2 = 1 then -1 else ((Utf8.decode s 0).1 : Nat)
/-- The bits that were gathered behind m more bytes. -/
def accR (s : ByteArray) (r0 : Int) : Nat → Int
  | 0 => r0
  | m + 1 => accR s r0 m * 64 + ((s.get! (m + 1)).toNat : Int) % 64
theorem accR_bd (s : ByteArray) (r0 : Int) (h0 : 0 ≤ r0) (h1 : r0 ≤ 31) (m : Nat) (hm : m ≤ 3) : 0 ≤ accR s r0 m ∧ accR s r0 m ≤ 8388607 := by
  match m, hm with
  | 0, _ => simp only [accR]; omega
  | 1, _ => simp only [accR]; omega
  | 2, _ => simp only [accR]; omega
  | 3, _ => simp only [accR]; omega

set_option maxRecDepth 100000 in
theorem dN_none (n b0 b1 b2 b3 : Nat) (h : (128 ≤ b0 ∧ b0 < 192) ∨ (248 ≤ b0 ∧ b0 < 256)) : Lib.decodeN n b0 b1 b2 b3 = (65533, 1) := by
  unfold Lib.decodeN
  repeat' split
  all_goals first | (exfalso; omega) | rfl
set_option maxRecDepth 100000 in
theorem dN_two (n b0 b1 b2 b3 : Nat) (h : 192 ≤ b0) (h' : b0 < 224) (hn : 1 < n) (h1 : b1 / 64 = 2) (hk : 128 ≤ b0 % 32 * 64 + b1 % 64) : Lib.decodeN n b0 b1 b2 b3 = (b0 % 32 * 64 + b1 % 64, 2) := by
  unfold Lib.decodeN
  repeat' split
  all_goals first | (exfalso; omega) | rfl
set_option maxRecDepth 100000 in
theorem dN_two_bad (n b0 b1 b2 b3 : Nat) (h : 192 ≤ b0) (h' : b0 < 224) (hk : ¬ (1 < n ∧ b1 / 64 = 2) ∨ b0 % 32 * 64 + b1 % 64 < 128) : Lib.decodeN n b0 b1 b2 b3 = (65533, 1) := by
  unfold Lib.decodeN
  repeat' split
  all_goals first | (exfalso; omega) | rfl
set_option maxRecDepth 100000 in
theorem dN_three (n b0 b1 b2 b3 : Nat) (h : 224 ≤ b0) (h' : b0 < 240) (hn : 2 < n) (h1 : b1 / 64 = 2) (h2 : b2 / 64 = 2) (hk : 2048 ≤ b0 % 16 * 4096 + b1 % 64 * 64 + b2 % 64)
    (hs : ¬ (55296 ≤ b0 % 16 * 4096 + b1 % 64 * 64 + b2 % 64 ∧ b0 % 16 * 4096 + b1 % 64 * 64 + b2 % 64 ≤ 57343)) : Lib.decodeN n b0 b1 b2 b3 = (b0 % 16 * 4096 + b1 % 64 * 64 + b2 % 64, 3) := by
  unfold Lib.decodeN
  repeat' split
  all_goals first | (exfalso; omega) | rfl
set_option maxRecDepth 100000 in
theorem dN_three_bad (n b0 b1 b2 b3 : Nat) (h : 224 ≤ b0) (h' : b0 < 240) (hk : ¬ (1 < n ∧ b1 / 64 = 2) ∨ ¬ (2 < n ∧ b2 / 64 = 2) ∨ b0 % 16 * 4096 + b1 % 64 * 64 + b2 % 64 < 2048 ∨ (55296 ≤ b0 % 16 * 4096 + b1 % 64 * 64 + b2 % 64 ∧ b0 % 16 * 4096 + b1 % 64 * 64 + b2 % 64 ≤ 57343)) :
    Lib.decodeN n b0 b1 b2 b3 = (65533, 1) := by
  unfold Lib.decodeN
  repeat' split
  all_goals first | (exfalso; omega) | rfl
set_option maxRecDepth 100000 in
theorem dN_four (n b0 b1 b2 b3 : Nat) (h : 240 ≤ b0) (h' : b0 < 248) (hn : 3 < n) (h1 : b1 / 64 = 2) (h2 : b2 / 64 = 2) (h3 : b3 / 64 = 2) (hk : 65536 ≤ b0 % 8 * 262144 + b1 % 64 * 4096 + b2 % 64 * 64 + b3 % 64)
    (hs : b0 % 8 * 262144 + b1 % 64 * 4096 + b2 % 64 * 64 + b3 % 64 ≤ 1114111) : Lib.decodeN n b0 b1 b2 b3 = (b0 % 8 * 262144 + b1 % 64 * 4096 + b2 % 64 * 64 + b3 % 64, 4) := by
  unfold Lib.decodeN
  repeat' split
  all_goals first | (exfalso; omega) | rfl
set_option maxRecDepth 100000 in
theorem dN_four_bad (n b0 b1 b2 b3 : Nat) (h : 240 ≤ b0) (h' : b0 < 248) (hk : ¬ (1 < n ∧ b1 / 64 = 2) ∨ ¬ (2 < n ∧ b2 / 64 = 2) ∨ ¬ (3 < n ∧ b3 / 64 = 2) ∨ b0 % 8 * 262144 + b1 % 64 * 4096 + b2 % 64 * 64 + b3 % 64 < 65536 ∨ 1114111 < b0 % 8 * 262144 + b1 % 64 * 4096 + b2 % 64 * 64 + b3 % 64) :
    Lib.decodeN n b0 b1 b2 b3 = (65533, 1) := by
  unfold Lib.decodeN
  repeat' split
  all_goals first | (exfalso; omega) | rfl

/-- What a reading of one character answers. -/
def NextIs (s : ByteArray) (r n : Int) : Prop := r = nextR s ∧ n = ((Utf8.decode s 0).2 : Nat)
theorem next_bad {s : ByteArray} (h : 128 ≤ (s.get! 0).toNat) (hd : Lib.decodeN (s.size - 0) (s.get! 0).toNat (s.get! (0 + 1)).toNat (s.get! (0 + 2)).toNat (s.get! (0 + 3)).toNat = (65533, 1)) : NextIs s (-1) 1 := by
  rw [← Lib.decode_at] at hd
  unfold NextIs nextR
  rw [hd]
  simp [h]
theorem next_good {s : ByteArray} {c n : Nat} (hn : 2 ≤ n) (hd : Lib.decodeN (s.size - 0) (s.get! 0).toNat (s.get! (0 + 1)).toNat (s.get! (0 + 2)).toNat (s.get! (0 + 3)).toNat = (c, n)) : NextIs s c n := by
  rw [← Lib.decode_at] at hd
  unfold NextIs nextR
  rw [hd]
  rw [if_neg (by dsimp only; omega)]
  exact ⟨rfl, rfl⟩
theorem next_one {s : ByteArray} (h : (s.get! 0).toNat < 128) : NextIs s (s.get! 0).toNat 1 := by
  have hd : Utf8.decode s 0 = ((s.get! 0).toNat, 1) := by
    rw [Lib.decode_at]
    simp [Lib.decodeN, h]
  unfold NextIs nextR
  rw [hd, if_neg (by omega)]
  exact ⟨rfl, rfl⟩

/-- All of the bytes behind the first, m of them, go on. -/
def Conts (s : ByteArray) (m : Nat) : Prop := ∀ j, 1 ≤ j → j ≤ m → (s.get! j).toNat / 64 = 2

theorem two_end {s : ByteArray} (h : 192 ≤ (s.get! 0).toNat) (h' : (s.get! 0).toNat < 224) (hn : 2 ≤ s.size) (hc : Conts s 1) {R : Int} (hR : R = accR s (((s.get! 0).toNat : Int) % 32) 1) (hk : 128 ≤ R) : NextIs s R 2 := by
  have h1 := hc 1 (by omega) (by omega)
  simp only [accR, Nat.zero_add] at hR
  have := next_good (s := s) (by omega) (dN_two (s.size - 0) (s.get! 0).toNat (s.get! (0 + 1)).toNat (s.get! (0 + 2)).toNat (s.get! (0 + 3)).toNat h h' (by omega) h1 (by simp only [Nat.zero_add]; omega))
  simp only [Nat.zero_add] at this
  have e : R = (((s.get! 0).toNat % 32 * 64 + (s.get! 1).toNat % 64 : Nat) : Int) := by omega
  rw [e]
  exact this
theorem two_bad {s : ByteArray} (h : 192 ≤ (s.get! 0).toNat) (h' : (s.get! 0).toNat < 224) (hk : s.size < 2 ∨ (∃ j, 1 ≤ j ∧ j < 2 ∧ (s.get! j).toNat / 64 ≠ 2) ∨ accR s (((s.get! 0).toNat : Int) % 32) 1 < 128) : NextIs s (-1) 1 := by
  refine next_bad (by omega) (dN_two_bad _ _ _ _ _ h h' ?_)
  simp only [accR, Nat.zero_add] at hk ⊢
  rcases hk with hk | ⟨j, h1, h2, h3⟩ | hk
  · omega
  · obtain rfl : j = 1 := by omega
    omega
  · omega
theorem three_end {s : ByteArray} (h : 224 ≤ (s.get! 0).toNat) (h' : (s.get! 0).toNat < 240) (hn : 3 ≤ s.size) (hc : Conts s 2) {R : Int} (hR : R = accR s (((s.get! 0).toNat : Int) % 16) 2) (hk : 2048 ≤ R) (hs : ¬ (55296 ≤ R ∧ R ≤ 57343)) : NextIs s R 3 := by
  have h1 := hc 1 (by omega) (by omega)
  have h2 := hc 2 (by omega) (by omega)
  simp only [accR, Nat.zero_add, Nat.reduceAdd] at hR
  have := next_good (s := s) (by omega) (dN_three (s.size - 0) (s.get! 0).toNat (s.get! (0 + 1)).toNat (s.get! (0 + 2)).toNat (s.get! (0 + 3)).toNat h h' (by omega) h1 h2 (by simp only [Nat.zero_add]; omega) (by simp only [Nat.zero_add]; omega))
  simp only [Nat.zero_add] at this
  have e : R = (((s.get! 0).toNat % 16 * 4096 + (s.get! 1).toNat % 64 * 64 + (s.get! 2).toNat % 64 : Nat) : Int) := by omega
  rw [e]
  exact this
theorem three_bad {s : ByteArray} (h : 224 ≤ (s.get! 0).toNat) (h' : (s.get! 0).toNat < 240) (hk : s.size < 3 ∨ (∃ j, 1 ≤ j ∧ j < 3 ∧ (s.get! j).toNat / 64 ≠ 2) ∨ accR s (((s.get! 0).toNat : Int) % 16) 2 < 2048 ∨ (55296 ≤ accR s (((s.get! 0).toNat : Int) % 16) 2 ∧ accR s (((s.get! 0).toNat : Int) % 16) 2 ≤ 57343)) : NextIs s (-1) 1 := by
  refine next_bad (by omega) (dN_three_bad _ _ _ _ _ h h' ?_)
  simp only [accR, Nat.zero_add, Nat.reduceAdd] at hk ⊢
  rcases hk with hk | ⟨j, h1, h2, h3⟩ | hk
  · omega
  · rcases (show j = 1 ∨ j = 2 by omega) with rfl | rfl <;> omega
  · omega
theorem four_end {s : ByteArray} (h : 240 ≤ (s.get! 0).toNat) (h' : (s.get! 0).toNat < 248) (hn : 4 ≤ s.size) (hc : Conts s 3) {R : Int} (hR : R = accR s (((s.get! 0).toNat : Int) % 8) 3) (hk : 65536 ≤ R) (hs : R ≤ 1114111) : NextIs s R 4 := by
  have h1 := hc 1 (by omega) (by omega)
  have h2 := hc 2 (by omega) (by omega)
  have h3 := hc 3 (by omega) (by omega)
  simp only [accR, Nat.zero_add, Nat.reduceAdd] at hR
  have := next_good (s := s) (by omega) (dN_four (s.size - 0) (s.get! 0).toNat (s.get! (0 + 1)).toNat (s.get! (0 + 2)).toNat (s.get! (0 + 3)).toNat h h' (by omega) h1 h2 h3 (by simp only [Nat.zero_add]; omega) (by simp only [Nat.zero_add]; omega))
  simp only [Nat.zero_add] at this
  have e : R = (((s.get! 0).toNat % 8 * 262144 + (s.get! 1).toNat % 64 * 4096 + (s.get! 2).toNat % 64 * 64 + (s.get! 3).toNat % 64 : Nat) : Int) := by omega
  rw [e]
  exact this
theorem four_bad {s : ByteArray} (h : 240 ≤ (s.get! 0).toNat) (h' : (s.get! 0).toNat < 248) (hk : s.size < 4 ∨ (∃ j, 1 ≤ j ∧ j < 4 ∧ (s.get! j).toNat / 64 ≠ 2) ∨ accR s (((s.get! 0).toNat : Int) % 8) 3 < 65536 ∨ 1114111 < accR s (((s.get! 0).toNat : Int) % 8) 3) : NextIs s (-1) 1 := by
  refine next_bad (by omega) (dN_four_bad _ _ _ _ _ h h' ?_)
  simp only [accR, Nat.zero_add, Nat.reduceAdd] at hk ⊢
  rcases hk with hk | ⟨j, h1, h2, h3⟩ | hk
  · omega
  · rcases (show j = 1 ∨ j = 2 ∨ j = 3 by omega) with rfl | rfl | rfl <;> omega
  · omega

end Go.Proofs.YtigkdehaepenhaaGreatDoor.Q

namespace Go.Proofs.YtigkdehaepenhaaGreatDoor.Q
open Go.RowKit

theorem bsC_len (sign : UInt8) (c : Bytes) : (bsC sign c).length ≤ 4 * c.length := by
  cases c with
  | nil => simp [bsC]
  | cons b r =>
    have := esc_len b
    simp only [bsC]
    repeat' split
    all_goals simp only [List.length_cons, List.length_nil] at *
    all_goals omega
theorem bsP_nil (sign : UInt8) : bsP sign [] = [] := by unfold bsP; rw [chunks_nil]; rfl
theorem bsP_step (sign : UInt8) {l : Bytes} (h : l ≠ []) : bsP sign l = bsC sign (l.take (sz l)) ++ bsP sign (l.drop (sz l)) := by
  unfold bsP
  rw [chunks_step l h, List.flatMap_cons]
theorem bsP_len (sign : UInt8) (l : Bytes) : (bsP sign l).length ≤ 4 * l.length := by
  refine by_drop (P := fun l => (bsP sign l).length ≤ 4 * l.length) ?_ ?_ l
  · rw [bsP_nil]; simp
  · intro l h ih
    have h1 := bsC_len sign (l.take (sz l))
    have h2 := sz_le l h
    rw [bsP_step sign h, List.length_append]
    rw [List.length_drop] at ih
    rw [List.length_take] at h1
    omega
theorem take_cons {l : Bytes} {K : Nat} (h : l ≠ []) (hK : 1 ≤ K) : ∃ r, l.take K = l.head h :: r := by
  cases l with
  | nil => exact absurd rfl h
  | cons b r =>
    obtain ⟨j, rfl⟩ : ∃ j, K = j + 1 := ⟨K - 1, by omega⟩
    exact ⟨r.take j, rfl⟩
theorem head_get (s : ByteArray) (h : L s ≠ []) (h0 : 0 < s.size) : s[0]'h0 = (L s).head h := by
  rw [get_at, List.head_eq_getElem]
theorem tail_size (t : ByteArray) (K : Nat) : (t.extract K t.size).size = t.size - K := by
  rw [← L_len, L_from, List.length_drop, L_len]

def SlashRel (s : ByteArray) (sign : UInt8) (w : World) (v : Value) (w' : World) : Prop :=
  ∃ (t : ByteArray) (out : Bytes), v = .string t ∧ t.size ≤ s.size ∧ out ++ bsP sign (L t) = bsP sign (L s) ∧ out.length ≤ 4 * s.size ∧ Bld w w.heap.size out w'

set_option maxHeartbeats 2000000 in
set_option maxRecDepth 100000 in
theorem backslashed_any (s : ByteArray) (sign : UInt8) (w : World) (hT : Tab w) (hs : s.size ≤ 1000000) :
    Calls Tryz.prog 129 #[.string s, .int .u8 (sign.toNat : Int)] w fun e w' => e = .returned (.string (T (bsP sign (L s)))) ∧ Below w.heap.size w w' := by
  have HM := Lib.hid (Bld.made w)
  have hsz := bsP_len sign (L s)
  rw [L_len] at hsz
  obtain ⟨sg, hsg⟩ : ∃ sg, sign.toNat = sg := ⟨_, rfl⟩
  rw [hsg]
  go_enter Tryz.func129, Tryz.ntmps129
  go_wp2
  go_loopw [0] (SlashRel s sign w) (fun v _ => (textOf v).size)
  case atStart => exact ⟨s, [], rfl, Nat.le_refl _, rfl, by simp, HM.out⟩
  case round =>
    obtain ⟨t, out, rfl, hts, hr, hol, hb⟩ := hrel
    have HB := Lib.hid hb
    have HR := Lib.hid hr
    clear hb hr
    by_cases hne : L t = []
    · have he := empty_true hne
      go_wp2_with fail
      refine HB.out.string.mono ?_
      rintro e w2 ⟨rfl, hb2⟩
      go_wp2_with fail
      go_ret
      refine ⟨ret_str ?_, hb2⟩
      rw [← HR.out, hne, bsP_nil, List.append_nil]
    · have he := empty_false hne
      have h0 : 0 < t.size := L_ne.1 hne
      obtain ⟨K, hK⟩ : ∃ K, sz (L t) = K := ⟨_, rfl⟩
      obtain ⟨k, hk⟩ : ∃ k, kc ((L t).take K) = k := ⟨_, rfl⟩
      have cF := first_of t K k wr (HB.out.tab hT) hne hK hk
      have hbd : 1 ≤ K ∧ K ≤ 4 := by rw [← hK]; exact sz_bd _
      have hle : K ≤ t.size := by
        have h1 := sz_le _ hne
        rw [hK, L_len] at h1
        omega
      have HP : Hid (bsP sign (L t) = bsC sign ((L t).take K) ++ bsP sign ((L t).drop K)) := Lib.hid (by rw [bsP_step sign hne, hK])
      obtain ⟨b, hbb⟩ : ∃ b, t[0]'h0 = b := ⟨_, rfl⟩
      obtain ⟨r, hr⟩ := take_cons (K := K) hne hbd.1
      rw [← head_get t hne h0, hbb] at hr
      have HC : Hid ((L t).take K = b :: r) := Lib.hid hr
      have HK : Hid (hardC (b :: r) = decide (k = 1)) := Lib.hid (by
        rw [← hr]
        unfold hardC
        rw [hk]
        rfl)
      have HL : Hid (∀ o : Bytes, o = out ++ bsC sign ((L t).take K) → o ++ bsP sign ((L t).drop K) = bsP sign (L s) ∧ o.length ≤ 4 * s.size) := Lib.hid (fun o ho => by
        have e : o ++ bsP sign ((L t).drop K) = bsP sign (L s) := by rw [ho, ← HR.out, HP.out, List.append_assoc]
        refine ⟨e, ?_⟩
        have := congrArg List.length e
        rw [List.length_append] at this
        omega)
      obtain ⟨bn, hbn⟩ : ∃ bn, b.toNat = bn := ⟨_, rfl⟩
      have hb92 : Hid ((b = 92) ↔ bn = 92) := Lib.hid (by rw [← UInt8.toNat_inj, hbn]; rfl)
      have hbsg : Hid ((b = sign) ↔ bn = sg) := Lib.hid (by rw [← UInt8.toNat_inj, hbn, hsg])
      have hz2 := tail_size t K
      clear hK hk hr hne
      go_wp2_with fail
      refine cF.mono ?_
      rintro e w2 ⟨rfl, hb2⟩
      have HB2 := Lib.hid (HB.out.keep hb2)
      clear hb2 cF
      by_cases hq : k = 1
      · subst hq
        go_wp2_with fail
        have cE := writeEscape_any HB2.out (by omega) b
        rw [hbn] at cE
        refine cE.mono ?_
        rintro e w3 ⟨rfl, h3⟩
        have HB3 := Lib.hid h3
        clear h3
        go_wp2_with fail
        go_roundw
        case rel =>
          obtain ⟨e1, e2⟩ := HL.out (out ++ esc b) (by rw [HC.out, bsC, HK.out]; rfl)
          refine ⟨t.extract K t.size, out ++ esc b, rfl, by omega, ?_, e2, HB3.out⟩
          rw [L_from]; exact e1
        case measure =>
          show (t.extract K t.size).size < t.size
          omega
      · have hq2 : (((k : Nat) : Int) == 1) = false := beq_eq_false_iff_ne.2 (by omega)
        by_cases hs2 : bn = 92 ∨ bn = sg
        · have hbs : Hid (bsC sign ((L t).take K) = [92] ++ [b]) := Lib.hid (by
            rw [HC.out, bsC, HK.out, decide_eq_false hq, if_neg (by decide), if_pos (by rw [hb92.out, hbsg.out]; exact hs2)]
            rfl)
          have key : ∀ (w3 : World) (n : Int), n = (bn : Int) → Bld w w.heap.size (out ++ [92]) w3 → Calls Tryz.prog 143 #[.pointer (some ⟨w.heap.size, 0, none⟩), .int .u8 n] w3 fun e w' => e = .returned .nilIface ∧ Bld w w.heap.size (out ++ [92] ++ [b]) w' :=
            fun w3 n hn h3 => h3.writeByte (by simp; omega) b n (by rw [hbn]; exact hn)
          by_cases h92 : bn = 92
          · have hx : ((bn : Int) == 92) = true := by rw [h92]; rfl
            clear hs2 h92 hq
            go_wp2_with fail
            refine (HB2.out.writeByte (by omega) 92 92 rfl).mono ?_
            rintro e w3 ⟨rfl, h3⟩
            go_wp2_with fail
            refine (key w3 _ rfl h3).mono ?_
            rintro e w4 ⟨rfl, h4⟩
            have HB4 := Lib.hid h4
            clear h3 h4
            go_wp2_with fail
            go_roundw
            case rel =>
              obtain ⟨e1, e2⟩ := HL.out (out ++ [92] ++ [b]) (by rw [hbs.out, List.append_assoc])
              refine ⟨t.extract K t.size, out ++ [92] ++ [b], rfl, by omega, ?_, e2, HB4.out⟩
              rw [L_from]; exact e1
            case measure =>
              show (t.extract K t.size).size < t.size
              omega
          · have hx : ((bn : Int) == 92) = false := beq_eq_false_iff_ne.2 (by omega)
            have hx2 : ((bn : Int) == (sg : Int)) = true := beq_iff_eq.2 (by omega)
            clear hs2 h92 hq
            go_wp2_with fail
            refine (HB2.out.writeByte (by omega) 92 92 rfl).mono ?_
            rintro e w3 ⟨rfl, h3⟩
            go_wp2_with fail
            refine (key w3 _ rfl h3).mono ?_
            rintro e w4 ⟨rfl, h4⟩
            have HB4 := Lib.hid h4
            clear h3 h4
            go_wp2_with fail
            go_roundw
            case rel =>
              obtain ⟨e1, e2⟩ := HL.out (out ++ [92] ++ [b]) (by rw [hbs.out, List.append_assoc])
              refine ⟨t.extract K t.size, out ++ [92] ++ [b], rfl, by omega, ?_, e2, HB4.out⟩
              rw [L_from]; exact e1
            case measure =>
              show (t.extract K t.size).size < t.size
              omega
        · have hx : ((bn : Int) == 92) = false := beq_eq_false_iff_ne.2 (by omega)
          have hx2 : ((bn : Int) == (sg : Int)) = false := beq_eq_false_iff_ne.2 (by omega)
          have hbs : Hid (bsC sign ((L t).take K) = (L t).take K) := Lib.hid (by
            rw [HC.out, bsC, HK.out, decide_eq_false hq, if_neg (by decide), if_neg (by rw [hb92.out, hbsg.out]; exact hs2)])
          have hz : (t.extract 0 K).size ≤ 1000000000 := by rw [← L_len, L_to, List.length_take]; omega
          go_wp2_with fail
          refine (HB2.out.writeString (by omega) (t.extract 0 K) hz).mono ?_
          rintro e w3 ⟨⟨v3, rfl⟩, h3⟩
          have HB3 := Lib.hid h3
          clear h3
          go_wp2_with fail
          go_roundw
          case rel =>
            obtain ⟨e1, e2⟩ := HL.out (out ++ L (t.extract 0 K)) (by rw [hbs.out, L_to])
            refine ⟨t.extract K t.size, out ++ L (t.extract 0 K), rfl, by omega, ?_, e2, HB3.out⟩
            rw [L_from]; exact e1
          case measure =>
            show (t.extract K t.size).size < t.size
            omega
end Go.Proofs.YtigkdehaepenhaaGreatDoor.Q
