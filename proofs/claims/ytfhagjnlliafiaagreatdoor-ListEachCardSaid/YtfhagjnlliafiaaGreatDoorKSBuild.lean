/-
  What digits.Dec returns.
  Conditions: each fact's own.
-/
import Derived.Test.YtfhagjnlliafiaaGreatDoorKDBase
import Derived.Test.YtfhagjnlliafiaaGreatDoorShelf
import Derived.WalkSmall
import Derived.Lib.LaidTab
import Derived.Lib.AppendIntMem
import Derived.Lib.ItoaNum
import Derived.Test.YtfhagjnlliafiaaGreatDoorShelfB
import Derived.Shelf.Strings.BuilderK
import Derived.Lib.BufSteps
set_option linter.unusedVariables false
namespace Go.Proofs.YtfhagjnlliafiaaGreatDoor.S
open Go.Proofs.YtfhagjnlliafiaaGreatDoor.D
open Go.RowKit
def Pow (w : World) : Prop := Lib.TabIs Tryz.prog w "internal/strconv.uint64pow10" .u64 Lib.pow10Tab
theorem gPow : Tryz.prog.globalNamed "internal/strconv.uint64pow10" = some 5 := by kernel_rfl
theorem var_lt {P : Program} {w : World} {n : String} {g : Nat} {cs : Array Value} (hg : P.globalNamed n = some g) (h : w.var? P n = some cs) : g < w.heap.size := by
  unfold World.var? at h
  simp only [hg, Option.bind_some] at h
  rcases Nat.lt_or_ge g w.heap.size with hl | hl
  · exact hl
  · rw [Array.getElem?_eq_none hl] at h
    simp at h
theorem Pow.keep {w w' : World} (h : Pow w) (hb : Below w.heap.size w w') : Pow w' :=
  var?_below hb gPow (var_lt gPow h) h
theorem dec_any (n : Int) (w : World) (h1 : -9223372036854775808 ≤ n) (h2 : n ≤ 9223372036854775807) (ht : Pow w) :
    Calls Tryz.prog 81 #[.int .i64 n] w fun e w' => e = .returned (.string ⟨(Lib.itoa n).toArray⟩) ∧ Below w.heap.size w w' := by
  have HT := Lib.hid ht
  clear ht
  go_enter Tryz.func81, Tryz.ntmps81
  go_wp2_with fail
  refine (Tryz.strconv_FormatInt_10 n h1 h2 _ HT.out).mono ?_
  rintro e w' ⟨rfl, k, os, rfl⟩
  go_wp2_with fail
  go_ret
  exact ⟨rfl, Lib.below_grow _ _ (Nat.le_refl _) k os⟩
end Go.Proofs.YtfhagjnlliafiaaGreatDoor.S
namespace Go.Proofs.YtfhagjnlliafiaaGreatDoor.S
open Go.Lib
def fmtL (one : UInt8 → Option (List UInt8)) : List UInt8 → List UInt8
  | [] => []
  | [c] => [c]
  | c :: e :: r => if c = 37 then (match one e with | some s => s ++ fmtL one r | none => c :: fmtL one (e :: r)) else c :: fmtL one (e :: r)
theorem fmtL_nil (one : UInt8 → Option (List UInt8)) : fmtL one [] = [] := by rw [fmtL]
theorem fmtL_last (one : UInt8 → Option (List UInt8)) (c : UInt8) : fmtL one [c] = [c] := by rw [fmtL]
theorem fmtL_plain (one : UInt8 → Option (List UInt8)) {c : UInt8} (r : List UInt8) (h : c ≠ 37) : fmtL one (c :: r) = c :: fmtL one r := by
  cases r with
  | nil => rw [fmtL_last, fmtL_nil]
  | cons e r => rw [fmtL, if_neg h]
theorem fmtL_told (one : UInt8 → Option (List UInt8)) {e : UInt8} {s : List UInt8} (r : List UInt8) (h : one e = some s) : fmtL one (37 :: e :: r) = s ++ fmtL one r := by
  rw [fmtL, if_pos rfl, h]
theorem fmtL_none (one : UInt8 → Option (List UInt8)) {e : UInt8} (r : List UInt8) (h : one e = none) : fmtL one (37 :: e :: r) = 37 :: fmtL one (e :: r) := by
  rw [fmtL, if_pos rfl, h]
theorem fmtL_append (one : UInt8 → Option (List UInt8)) (g : List UInt8) : ∀ (k : Nat) (f : List UInt8), f.length ≤ k → f.getLast? ≠ some 37 → fmtL one (f ++ g) = fmtL one f ++ fmtL one g
  | _, [], _, _ => by rw [fmtL_nil]; rfl
  | 0, _ :: _, h, _ => by simp at h
  | k + 1, c :: r, h, hl => by
    have hk : r.length ≤ k := by simpa using h
    by_cases hc : c = 37
    · subst hc
      cases r with
      | nil => exact absurd rfl hl
      | cons e r =>
        have hl2 : (e :: r).getLast? ≠ some 37 := by simpa using hl
        rw [List.cons_append, List.cons_append]
        cases ho : one e with
        | none =>
          rw [fmtL_none one _ ho, fmtL_none one _ ho, ← List.cons_append, fmtL_append one g k (e :: r) hk hl2, List.cons_append]
        | some s =>
          rw [fmtL_told one _ ho, fmtL_told one _ ho, fmtL_append one g k r (by simp at hk; omega) ?_, List.append_assoc]
          cases r with
          | nil => simp
          | cons x r => simpa using hl2
    · rw [List.cons_append, fmtL_plain one _ hc, fmtL_plain one _ hc, List.cons_append]
      rw [fmtL_append one g k r hk ?_]
      cases r with
      | nil => simp
      | cons x r => simpa using hl
theorem fmtL_length (one : UInt8 → Option (List UInt8)) (m : Nat) (hm : ∀ e s, one e = some s → s.length ≤ m) (h1 : 1 ≤ m) : ∀ (k : Nat) (f : List UInt8), f.length ≤ k → (fmtL one f).length ≤ m * f.length
  | _, [], _ => by rw [fmtL_nil]; simp
  | 0, _ :: _, h => by simp at h
  | k + 1, c :: r, h => by
    have hk : r.length ≤ k := by simpa using h
    have hr := fmtL_length one m hm h1 k r hk
    have e1 : m * (c :: r).length = m * r.length + m := by rw [List.length_cons, Nat.mul_succ]
    by_cases hc : c = 37
    · subst hc
      cases r with
      | nil => rw [fmtL_last]; simpa using h1
      | cons e r =>
        cases ho : one e with
        | none =>
          rw [fmtL_none one _ ho, e1, List.length_cons]
          omega
        | some s =>
          have hs := hm e s ho
          have hr2 := fmtL_length one m hm h1 k r (by simp at hk; omega)
          have e2 : m * (e :: r).length = m * r.length + m := by rw [List.length_cons, Nat.mul_succ]
          rw [fmtL_told one _ ho, e1, List.length_append]
          omega
    · rw [fmtL_plain one _ hc, e1, List.length_cons]
      omega
def twoL (n : Nat) : List UInt8 := [UInt8.ofNat (48 + n / 10 % 10), UInt8.ofNat (48 + n % 10)]
def threeL (n : Nat) : List UInt8 := UInt8.ofNat (48 + n / 100) :: twoL (n % 100)
theorem itoa_two : ∀ n : Fin 100, itoa (n.val : Int) = if n.val < 10 then [UInt8.ofNat (48 + n.val)] else twoL n.val := by decide +kernel
theorem itoa_three : ∀ n : Fin 1000, itoa (n.val : Int) = if n.val < 10 then [UInt8.ofNat (48 + n.val)] else if n.val < 100 then twoL n.val else threeL n.val := by decide +kernel
theorem two_small (n : Nat) (h : n < 10) : twoL n = 48 :: [UInt8.ofNat (48 + n)] := by
  unfold twoL
  rw [show n / 10 % 10 = 0 by omega, show n % 10 = n by omega]
  rfl
theorem three_small (n : Nat) (h : n < 100) : threeL n = 48 :: twoL n := by
  unfold threeL
  rw [show n / 100 = 0 by omega, show n % 100 = n by omega]
  rfl
end Go.Proofs.YtfhagjnlliafiaaGreatDoor.S
namespace Go.Proofs.YtfhagjnlliafiaaGreatDoor.S
open Go.Proofs.YtfhagjnlliafiaaGreatDoor.D
open Go.Lib
def monName (k : Nat) : List UInt8 := [[74, 97, 110], [70, 101, 98], [77, 97, 114], [65, 112, 114], [77, 97, 121], [74, 117, 110], [74, 117, 108], [65, 117, 103], [83, 101, 112], [79, 99, 116], [78, 111, 118], [68, 101, 99]].getD k []
def dayName (k : Nat) : List UInt8 := [[83, 117, 110], [77, 111, 110], [84, 117, 101], [87, 101, 100], [84, 104, 117], [70, 114, 105], [83, 97, 116]].getD k []
def zoneL (o : Int) : List UInt8 := (if o < 0 then 45 else 43) :: (twoL ((offB o).natAbs / 3600) ++ twoL ((offB o).natAbs / 60 % 60))
def dayL (d : Int) : List UInt8 := if d < 10 then [32, UInt8.ofNat (48 + d.toNat)] else twoL d.toNat
def oneL (t o y m d h i s wd yd : Int) (c : UInt8) : Option (List UInt8) :=
  if c = 89 then some (itoa y)
  else if c = 109 then some (twoL m.toNat)
  else if c = 100 then some (twoL d.toNat)
  else if c = 72 then some (twoL h.toNat)
  else if c = 77 then some (twoL i.toNat)
  else if c = 83 then some (twoL s.toNat)
  else if c = 101 then some (dayL d)
  else if c = 106 then some (threeL yd.toNat)
  else if c = 98 then some (monName (m.toNat - 1))
  else if c = 97 then some (dayName wd.toNat)
  else if c = 115 then some (itoa t)
  else if c = 122 then some (zoneL o)
  else if c = 70 then some (itoa y ++ [45] ++ twoL m.toNat ++ [45] ++ twoL d.toNat)
  else if c = 84 then some (twoL h.toNat ++ [58] ++ twoL i.toNat ++ [58] ++ twoL s.toNat)
  else if c = 37 then some [37]
  else none
theorem decDigits_len : ∀ (k n : Nat), n < 10 ^ k → (decDigits n).length ≤ max k 1
  | 0, n, h => by rw [decDigits, dif_pos (by simp at h; omega)]; simp
  | k + 1, n, h => by
    by_cases hn : n < 10
    · rw [decDigits, dif_pos hn]; simp
    · have := decDigits_len k (n / 10) (by rw [Nat.pow_succ] at h; omega)
      rw [decDigits, dif_neg hn, List.length_append]
      simp only [List.length_cons, List.length_nil]
      cases k with
      | zero => simp at h; omega
      | succ k => omega
theorem itoa_len (n : Int) (h1 : -9223372036854775808 ≤ n) (h2 : n ≤ 9223372036854775807) : (itoa n).length ≤ 20 := by
  unfold itoa
  split
  · have := decDigits_len 19 n.natAbs (by omega)
    simp only [List.length_cons]
    omega
  · have := decDigits_len 19 n.toNat (by omega)
    omega
theorem two_len (n : Nat) : (twoL n).length = 2 := rfl
theorem three_len (n : Nat) : (threeL n).length = 3 := rfl
theorem monName_len (k : Nat) : (monName k).length ≤ 3 := by
  unfold monName
  match k with
  | 0 | 1 | 2 | 3 | 4 | 5 | 6 | 7 | 8 | 9 | 10 | 11 => decide
  | k + 12 => simp
theorem dayName_len (k : Nat) : (dayName k).length ≤ 3 := by
  unfold dayName
  match k with
  | 0 | 1 | 2 | 3 | 4 | 5 | 6 => decide
  | k + 7 => simp
theorem zone_len (o : Int) : (zoneL o).length = 5 := rfl
theorem dayL_len (d : Int) : (dayL d).length = 2 := by
  unfold dayL; split <;> rfl
theorem if_len {p : Prop} [Decidable p] {a l : List UInt8} {r : Option (List UInt8)} {n : Nat} (h : (if p then some a else r) = some l) (ha : a.length ≤ n) (hr : r = some l → l.length ≤ n) : l.length ≤ n := by
  by_cases c : p
  · rw [if_pos c] at h
    injection h with h
    rw [← h]; exact ha
  · rw [if_neg c] at h
    exact hr h
theorem oneL_len (t o y m d h i s wd yd : Int) (ht1 : -9223372036854775808 ≤ t) (ht2 : t ≤ 9223372036854775807) (hy1 : -9223372036854775808 ≤ y) (hy2 : y ≤ 9223372036854775807) (c : UInt8) (l : List UInt8)
    (hl : oneL t o y m d h i s wd yd c = some l) : l.length ≤ 26 := by
  have a := itoa_len y hy1 hy2
  have b := itoa_len t ht1 ht2
  have mn := monName_len (m.toNat - 1)
  have dn := dayName_len wd.toNat
  unfold oneL at hl
  repeat' (refine if_len hl ?_ (fun hl => ?_))
  all_goals first | (cases hl; done) | omega | (simp only [List.length_append, List.length_cons, List.length_nil, two_len, three_len, zone_len, dayL_len]; omega)
theorem two_of (n : Int) (h0 : 0 ≤ n) (h1 : n < 100) : List.replicate (2 - (itoa n).length) 48 ++ itoa n = twoL n.toNat := by
  have e := itoa_two ⟨n.toNat, by omega⟩
  simp only [Int.toNat_of_nonneg h0] at e
  rw [e]
  split
  · rename_i h
    rw [two_small _ h]; rfl
  · rw [two_len]; rfl
theorem three_of (n : Int) (h0 : 0 ≤ n) (h1 : n < 1000) : List.replicate (3 - (itoa n).length) 48 ++ itoa n = threeL n.toNat := by
  have e := itoa_three ⟨n.toNat, by omega⟩
  simp only [Int.toNat_of_nonneg h0] at e
  rw [e]
  split
  · rename_i h
    rw [three_small _ (by omega), two_small _ h]; rfl
  · split
    · rename_i h
      rw [three_small _ h, two_len]; rfl
    · rw [three_len]; rfl
theorem day_of (n : Int) (h0 : 0 ≤ n) (h1 : n < 100) : List.replicate (2 - (itoa n).length) 32 ++ itoa n = dayL n := by
  have e := itoa_two ⟨n.toNat, by omega⟩
  simp only [Int.toNat_of_nonneg h0] at e
  rw [e]
  unfold dayL
  split
  · rename_i h
    rw [if_pos (by omega)]; rfl
  · rename_i h
    rw [if_neg (by omega), two_len]; rfl
theorem itoa_two_len (n : Int) (h0 : 0 ≤ n) (h1 : n < 1000) : 1 ≤ (itoa n).length ∧ (itoa n).length ≤ 3 := by
  have e := itoa_three ⟨n.toNat, by omega⟩
  simp only [Int.toNat_of_nonneg h0] at e
  rw [e]
  split
  · simp
  · split
    · rw [two_len]; omega
    · rw [three_len]; omega
end Go.Proofs.YtfhagjnlliafiaaGreatDoor.S
namespace Go.Proofs.YtfhagjnlliafiaaGreatDoor.S
open Go.Proofs.YtfhagjnlliafiaaGreatDoor.D
open Go.RowKit
def txt (l : List UInt8) : ByteArray := ⟨l.toArray⟩
theorem txt_size (l : List UInt8) : (txt l).size = l.length := by show l.toArray.size = _; simp
theorem txt_append (a b : List UInt8) : txt a ++ txt b = txt (a ++ b) := by
  unfold txt
  rw [ByteArray.mk_append_mk]
theorem txt_list (l : List UInt8) : (txt l).data.toList = l := by simp [txt]
structure STab (w : World) : Prop where
  pow : Pow w
  len : Tab w
  mon : ∀ k, k < 12 → w.cell? ⟨3, k, none⟩ = some (.string (txt (monName k)))
  day : ∀ k, k < 7 → w.cell? ⟨4, k, none⟩ = some (.string (txt (dayName k)))
theorem STab.keep {w w' : World} (h : STab w) (hb : Below w.heap.size w w') : STab w' :=
  ⟨h.pow.keep hb, h.len.keep hb, fun k hk => by rw [hb.cell (p := ⟨3, k, none⟩) (cell_lt (h.mon k hk))]; exact h.mon k hk, fun k hk => by rw [hb.cell (p := ⟨4, k, none⟩) (cell_lt (h.day k hk))]; exact h.day k hk⟩
def Bld (W0 : World) (b : Nat) (l : List UInt8) (w : World) : Prop := Lib.IsBuilderF 112 5 W0.heap.size b (Lib.byteCells l) w ∧ Below W0.heap.size W0 w ∧ W0.heap.size ≤ w.heap.size
theorem at_keep {T e : TypeId} {B b : Nat} {p : Value} {bs : List Value} {w w' : World} (h : Lib.BuilderAtF T e B b p bs w) (hb : Below w.heap.size w w') : Lib.BuilderAtF T e B b p bs w' := by
  have hlt := h.lt
  obtain ⟨hB, v, hbk, hown, hne⟩ := h
  refine ⟨hB, v, (hb.block b hlt).trans hbk, ?_, hne⟩
  exact hown.kept (row := none) ⟨hb.os, hb.tape, hb.output, hb.size, fun k hk _ => hb.block k hk⟩ (by cases v.ownBlock <;> simp)
theorem Bld.keep {W0 : World} {b : Nat} {l : List UInt8} {w w' : World} (h : Bld W0 b l w) (hb : Below w.heap.size w w') : Bld W0 b l w' := by
  obtain ⟨h1, h2, h3⟩ := h
  refine ⟨?_, h2.trans (hb.mono h3), Nat.le_trans h3 hb.size⟩
  rcases h1 with h1 | h1
  · exact .inl (at_keep h1 hb)
  · exact .inr (at_keep h1 hb)
theorem Bld.made (W0 : World) : Bld W0 W0.heap.size [] (W0.alloc (.cells #[.pointer none, .slice none 0 0] 112)) := by
  refine ⟨.inl ⟨Nat.le_refl _, .slice none 0 0, ?_, World.ownsRowF_nil _ _ _ _, by simp [Value.ownBlock]⟩, (Below.refl _ _).alloc (Nat.le_refl _) _, by simp⟩
  exact heap_alloc_new _ _
theorem Bld.writeByte {W0 : World} {b : Nat} {l : List UInt8} {w : World} (h : Bld W0 b l w) (hl : l.length ≤ 1000000000) (c : UInt8) (n : Int) (hn : n = (c.toNat : Int)) :
    Calls Tryz.prog 134 #[.pointer (some ⟨b, 0, none⟩), .int .u8 n] w fun e w' => e = .returned .nilIface ∧ Bld W0 b (l ++ [c]) w' := by
  subst hn
  obtain ⟨h1, h2, h3⟩ := h
  refine (Any.Builder_WriteByte_k Tryz.laysB167 Tryz.Builder_Extra_B W0.heap.size b (Lib.byteCells l) (c.toNat : Int) w h1 (by rw [Lib.byteCells_length]; omega) h3).mono ?_
  rintro e w' ⟨rfl, hA, hb, _⟩
  refine ⟨rfl, .inr ?_, h2.trans hb, Nat.le_trans h3 hb.size⟩
  rw [Lib.byteCells_append]
  exact hA
theorem Bld.writeString {W0 : World} {b : Nat} {l : List UInt8} {w : World} (h : Bld W0 b l w) (hl : l.length ≤ 1000000000) (s : ByteArray) (hs : s.size ≤ 1000000000) :
    Calls Tryz.prog 57 #[.pointer (some ⟨b, 0, none⟩), .string s] w fun e w' => (∃ v, e = .returned v) ∧ Bld W0 b (l ++ s.data.toList) w' := by
  obtain ⟨h1, h2, h3⟩ := h
  refine (Any.Builder_WriteString_k Tryz.laysB166 Tryz.Builder_Extra_B W0.heap.size b (Lib.byteCells l) s w h1 (by rw [Lib.byteCells_length]; omega) h3).mono ?_
  rintro e w' ⟨rfl, hA, hb, _⟩
  refine ⟨⟨_, rfl⟩, .inr ?_, h2.trans hb, Nat.le_trans h3 hb.size⟩
  rw [Lib.byteCells_append]
  exact hA
theorem Bld.string {W0 : World} {b : Nat} {l : List UInt8} {w : World} (h : Bld W0 b l w) :
    Calls Tryz.prog 58 #[.pointer (some ⟨b, 0, none⟩)] w fun e w' => e = .returned (.string (txt l)) ∧ Below W0.heap.size W0 w' := by
  obtain ⟨h1, h2, h3⟩ := h
  refine (Any.Builder_String_any_k Tryz.laysB169 Tryz.Builder_Extra_B W0.heap.size b l w h1 h3).mono ?_
  rintro e w' ⟨rfl, _, hb, _⟩
  exact ⟨rfl, h2.trans hb⟩
end Go.Proofs.YtfhagjnlliafiaaGreatDoor.S
