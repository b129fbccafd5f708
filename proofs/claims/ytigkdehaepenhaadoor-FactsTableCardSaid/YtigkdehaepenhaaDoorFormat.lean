/-
  What the library's formatting of a uint64 in a base of 8 or 16 returns: its digits. Conditions: the library's table lies as its text lays it.
-/
import Derived.Test.YtigkdehaepenhaaDoorTz
import Derived.Test.YtigkdehaepenhaaDoorRefDec
import Derived.Lib.AtoiErrMem
import Derived.Lib.ItoaMem
import Derived.Laws.IdiomStrings
namespace Go.Proofs.YtigkdehaepenhaaDoor.N
open Go.RowKit

/-- What the loop keeps in memory: a row of 65 bytes of the call's own, of which those from place i on are l. -/
structure Row65 (w wr : World) (B : Nat) (i : Int) (l : List UInt8) : Prop where
  bel : Below B w wr
  lt : B < wr.heap.size
  cell : ∀ t : Nat, t < 65 → ∃ z : Int, wr.cell? ⟨B, t, none⟩ = some (.int .u8 z)
  free : ∀ t : Nat, t < 65 → wr.frozen? ⟨B, t, none⟩ = false
  len : i.toNat + l.length = 65
  held : ∀ j : Nat, j < l.length → wr.cell? ⟨B, i.toNat + j, none⟩ = some (.int .u8 ((l.getD j 0).toNat : Int))

theorem pow_eight (w : World) : Calls Tryd.prog 80 #[.int .i64 8] w fun e w' => e = .returned (.bool true) ∧ w = w' := by
  have e8 : (bits BinOp.and IntKind.i64 8 7 == 0) = true := by decide +kernel
  go_enter Tryd.func80, Tryd.ntmps80
  go_wp2
  go_ret
  exact ⟨by rw [← e8]; rfl, rfl⟩
theorem pow_sixteen (w : World) : Calls Tryd.prog 80 #[.int .i64 16] w fun e w' => e = .returned (.bool true) ∧ w = w' := by
  have e8 : (bits BinOp.and IntKind.i64 16 15 == 0) = true := by decide +kernel
  go_enter Tryd.func80, Tryd.ntmps80
  go_wp2
  go_ret
  exact ⟨by rw [← e8]; rfl, rfl⟩

theorem TzTab.alloc {w : World} (h : TzTab w) (o : Obj) : TzTab (w.alloc o) := by
  have hb : Below w.heap.size w (w.alloc o) := (Below.refl _ _).alloc (Nat.le_refl _) o
  exact ⟨by rw [hb.cell (Lib.lt_of_cell h.1)]; exact h.1, by rw [hb.cell (Lib.lt_of_cell h.2)]; exact h.2⟩

theorem Row65.start (w : World) : Row65 w (w.alloc (.cells Tryd.zeroCells127 127)) w.heap.size 65 [] := by
  have e : Tryd.zeroCells127 = Array.replicate 65 (.int .u8 0) := by kernel_rfl
  refine ⟨(Below.refl _ _).alloc (Nat.le_refl _) _, by simp, fun t ht => ⟨0, ?_⟩, fun t _ => World.frozen?_alloc_new _ _ _ _, by decide, fun j hj => by simp at hj⟩
  rw [World.cell?_alloc_new, e, Array.getElem?_replicate, if_pos ht]

theorem Row65.store {w wr : World} {B : Nat} {k : Int} {l : List UInt8} (h : Row65 w wr B k l) (h1 : 1 ≤ k) (d : UInt8) :
    Row65 w (wr.setCell ⟨B, k.toNat - 1, none⟩ (.int .u8 (d.toNat : Int))) B (k - 1) (d :: l) := by
  have hl := h.len
  have hk : k.toNat - 1 < 65 := by omega
  have ek : (k - 1).toNat = k.toNat - 1 := by omega
  obtain ⟨z, hz⟩ := h.cell _ hk
  have other : ∀ t : Nat, t ≠ k.toNat - 1 → (wr.setCell ⟨B, k.toNat - 1, none⟩ (.int .u8 (d.toNat : Int))).cell? ⟨B, t, none⟩ = wr.cell? ⟨B, t, none⟩ := fun t ht =>
    World.cell?_setCell_other _ _ _ _ (by intro e; injection e with _ e2; omega)
  refine ⟨h.bel.setCell (Nat.le_refl _) _, by rw [World.size_setCell]; exact h.lt, fun t ht => ?_, fun t ht => by rw [World.frozen?_setCell]; exact h.free t ht, by rw [List.length_cons]; omega, fun j hj => ?_⟩
  · by_cases e : t = k.toNat - 1
    · subst e; exact ⟨_, World.cell?_setCell_same _ _ _ hz⟩
    · rw [other t e]; exact h.cell t ht
  · rw [ek]
    cases j with
    | zero => exact World.cell?_setCell_same _ _ _ hz
    | succ i =>
      have hi : i < l.length := by simpa using hj
      rw [other _ (by omega), show k.toNat - 1 + (i + 1) = k.toNat + i by omega, h.held i hi]
      simp

def digText : ByteArray := ⟨#[48, 49, 50, 51, 52, 53, 54, 55, 56, 57, 97, 98, 99, 100, 101, 102, 103, 104, 105, 106, 107, 108, 109, 110, 111, 112, 113, 114, 115, 116, 117, 118, 119, 120, 121, 122]⟩
theorem digText_at : ∀ d : Fin 16, digText.data.toList.getD d.val 0 = dch d.val := by decide +kernel

theorem dig_index (P : Program) (t : TypeId) (ht : P.underlying t = some .string) (z : Int) (d : Nat) (hz : z = (d : Int)) (hd : d < 16) (W : World) :
    (Instr.index t (.string ⟨#[48, 49, 50, 51, 52, 53, 54, 55, 56, 57, 97, 98, 99, 100, 101, 102, 103, 104, 105, 106, 107, 108, 109, 110, 111, 112, 113, 114, 115, 116, 117, 118, 119, 120, 121, 122]⟩) (.int .u64 z)).run P W = .ok (.int .u8 ((dch d).toNat : Int)) W := by
  subst hz
  have hs : digText.size = 36 := by decide +kernel
  show (Instr.index t (.string digText) (.int .u64 (d : Int))).run P W = _
  rw [run_index_string W t digText .u64 _ ht, dif_pos ⟨by omega, by rw [hs]; omega⟩]
  simp only [Int.toNat_natCast]
  rw [Lib.getD_at digText d (by rw [hs]; omega)]
  have := digText_at ⟨d, hd⟩
  simp only at this
  rw [this]

theorem arr65 : Tryd.prog.arrayLen 127 = 65 := by simp [Program.arrayLen, Tryd.underlying127]
theorem arrT : Tryd.prog.underlying 127 = some (.array (Tryd.prog.arrayLen 127) (Tryd.prog.elem 127)) := by
  simp [Program.arrayLen, Program.elem, Tryd.underlying127]

theorem tail_slice (B : Nat) (k : Int) (h1 : 1 ≤ k) (h2 : k ≤ 65) (W : World) :
    (Instr.sliceAt 127 (.pointer (some ⟨B, 0, none⟩)) (some (.int .i64 (k - 1))) none none).run Tryd.prog W = .ok (.slice (some ⟨B, k.toNat - 1, none⟩) (65 - (k.toNat - 1)) (65 - (k.toNat - 1))) W := by
  rw [run_sliceAt_array_l W 127 ⟨B, 0, none⟩ arrT .i64 (k - 1) (by omega) (by rw [arr65]; omega), arr65]
  go_simp
  omega

theorem tail_text {w wr : World} {B : Nat} {k : Int} {l : List UInt8} (h : Row65 w wr B (k - 1) l) (h1 : 1 ≤ k) :
    (convert 68 9 (.slice (some ⟨B, k.toNat - 1, none⟩) (65 - (k.toNat - 1)) (65 - (k.toNat - 1)))).run Tryd.prog wr = .ok (.string ⟨l.toArray⟩) wr := by
  have hl := h.len
  have := run_convert_bytes_back (P := Tryd.prog) wr 68 9 5 ⟨B, k.toNat - 1, none⟩ (65 - (k.toNat - 1)) l Tryd.underlying68 Tryd.underlying5 Tryd.underlying9 (fun j hj => by
    rw [Lib.add_plain]
    have := h.held j hj
    rw [show (k - 1).toNat = k.toNat - 1 by omega] at this
    rw [this]
    simp [List.getD_eq_getElem?_getD, hj])
  rw [show l.length = 65 - (k.toNat - 1) by omega] at this
  exact this

theorem dig_len {b n m : Nat} {l : List UInt8} (hb : 2 ≤ b) (hn : n ≤ 18446744073709551615) (h : digB b n = digB b m ++ l) : l.length ≤ 63 := by
  have a := digB_length b hb 63 n (by omega)
  rw [h, List.length_append] at a
  have : 1 ≤ (digB b m).length := by rw [digB]; split <;> simp
  omega

theorem dig_next {b n m : Nat} {l : List UInt8} (hb : 2 ≤ b) (h : digB b n = digB b m ++ l) (hm : b ≤ m) : digB b n = digB b (m / b) ++ (dch (m % b) :: l) := by
  rw [h, digB, dif_neg (by omega)]; simp

theorem dig_last {b n m : Nat} {l : List UInt8} (h : digB b n = digB b m ++ l) (hm : m < b) : dch m :: l = digB b n := by
  rw [h, digB, dif_pos (.inl hm)]; rfl

theorem ret_pair {a b : List UInt8} (h : a = b) : Ending.returned (.tuple #[.slice none 0 0, .string ⟨a.toArray⟩]) = .returned (.tuple #[.slice none 0 0, .string ⟨b.toArray⟩]) := by rw [h]

set_option maxHeartbeats 1000000 in
set_option maxRecDepth 100000 in
theorem bits_eight (n : Int) (w : World) (h1 : 0 ≤ n) (h2 : n ≤ 18446744073709551615) (ht : TzTab w) :
    Calls Tryd.prog 67 #[.slice none 0 0, .int .u64 n, .int .i64 8, .bool false, .bool false] w fun e w' => e = .returned (.tuple #[.slice none 0 0, .string ⟨(digB 8 n.toNat).toArray⟩]) ∧ Below w.heap.size w w' := by
  have HT := Lib.hid ht
  clear ht
  go_enter Tryd.func67, Tryd.ntmps67
  go_wp2_with fail
  refine (pow_eight _).mono ?_
  rintro e w' ⟨rfl, rfl⟩
  go_wp2_with fail
  refine (tz_eight _ (HT.out.alloc _)).mono ?_
  rintro e w' ⟨rfl, rfl⟩
  go_wp2_with fail
  go_loopw [1, 13] (fun u i wr => ∃ (m k : Int) (l : List UInt8), u = .int .u64 m ∧ i = .int .i64 k ∧ 0 ≤ m ∧ m ≤ 18446744073709551615 ∧ 2 ≤ k ∧ k ≤ 65 ∧ Hid (digB 8 n.toNat = digB 8 m.toNat ++ l) ∧ Hid (Row65 w wr w.heap.size k l)) (fun _ i _ => (intOf i).toNat)
  case atStart => exact ⟨n, 65, [], rfl, rfl, h1, h2, by omega, by omega, Lib.hid (by simp), Lib.hid (Row65.start w)⟩
  case round =>
    obtain ⟨m, k, l, rfl, rfl, m0, m1, k0, k1, hd, hr⟩ := hrel
    rename World => wr
    obtain ⟨z, hc⟩ := hr.out.cell (k.toNat - 1) (by omega)
    have hf := hr.out.free (k.toNat - 1) (by omega)
    by_cases c : 8 ≤ m
    · have hx := dig_index Tryd.prog 9 Tryd.underlying9 (bits .and .u64 m 7) (m.toNat % 8) (by rw [u64_and m 7 m0 (by omega) (by omega) (by omega), show (7 : Int).toNat = 2 ^ 3 - 1 from rfl, Nat.and_two_pow_sub_one_eq_mod]) (by omega)
      have ND := Lib.hid (dig_next (by omega) hd.out (show 8 ≤ m.toNat by omega))
      have NL := Lib.hid (dig_len (by omega) (by omega) ND.out)
      have NR := Lib.hid (hr.out.store (by omega) (dch (m.toNat % 8)))
      have hk : 3 ≤ k := by have := NL.out; have := hr.out.len; simp only [List.length_cons] at this NL; have := NL.out; omega
      have em : (m / 8).toNat = m.toNat / 8 := by omega
      have EM := Lib.hid em
      clear em
      go_wp2
      go_roundw
      case rel => exact ⟨m / 8, k - 1, _, rfl, rfl, by omega, by omega, by omega, by omega, by rw [EM.out]; exact ND, NR⟩
      case measure => simp [intOf]; omega
    · have hx := dig_index Tryd.prog 9 Tryd.underlying9 m m.toNat (by omega) (by omega)
      have ND := Lib.hid (dig_last hd.out (show m.toNat < 8 by omega))
      have NR := Lib.hid (hr.out.store (by omega) (dch m.toNat))
      have hsl := tail_slice w.heap.size k (by omega) (by omega)
      have hcv := tail_text NR.out (by omega)
      rw [ND.out] at hcv
      generalize hD : digB 8 n.toNat = D at *
      have HD := Lib.hid hD
      clear hD
      go_wp2
      go_ret2
      exact ⟨ret_pair HD.out.symm, NR.out.bel⟩

set_option maxHeartbeats 1000000 in
set_option maxRecDepth 100000 in
theorem bits_sixteen (n : Int) (w : World) (h1 : 0 ≤ n) (h2 : n ≤ 18446744073709551615) (ht : TzTab w) :
    Calls Tryd.prog 67 #[.slice none 0 0, .int .u64 n, .int .i64 16, .bool false, .bool false] w fun e w' => e = .returned (.tuple #[.slice none 0 0, .string ⟨(digB 16 n.toNat).toArray⟩]) ∧ Below w.heap.size w w' := by
  have HT := Lib.hid ht
  clear ht
  go_enter Tryd.func67, Tryd.ntmps67
  go_wp2_with fail
  refine (pow_sixteen _).mono ?_
  rintro e w' ⟨rfl, rfl⟩
  go_wp2_with fail
  refine (tz_sixteen _ (HT.out.alloc _)).mono ?_
  rintro e w' ⟨rfl, rfl⟩
  go_wp2_with fail
  go_loopw [1, 13] (fun u i wr => ∃ (m k : Int) (l : List UInt8), u = .int .u64 m ∧ i = .int .i64 k ∧ 0 ≤ m ∧ m ≤ 18446744073709551615 ∧ 2 ≤ k ∧ k ≤ 65 ∧ Hid (digB 16 n.toNat = digB 16 m.toNat ++ l) ∧ Hid (Row65 w wr w.heap.size k l)) (fun _ i _ => (intOf i).toNat)
  case atStart => exact ⟨n, 65, [], rfl, rfl, h1, h2, by omega, by omega, Lib.hid (by simp), Lib.hid (Row65.start w)⟩
  case round =>
    obtain ⟨m, k, l, rfl, rfl, m0, m1, k0, k1, hd, hr⟩ := hrel
    rename World => wr
    obtain ⟨z, hc⟩ := hr.out.cell (k.toNat - 1) (by omega)
    have hf := hr.out.free (k.toNat - 1) (by omega)
    by_cases c : 16 ≤ m
    · have hx := dig_index Tryd.prog 9 Tryd.underlying9 (bits .and .u64 m 15) (m.toNat % 16) (by rw [u64_and m 15 m0 (by omega) (by omega) (by omega), show (15 : Int).toNat = 2 ^ 4 - 1 from rfl, Nat.and_two_pow_sub_one_eq_mod]) (by omega)
      have ND := Lib.hid (dig_next (by omega) hd.out (show 16 ≤ m.toNat by omega))
      have NL := Lib.hid (dig_len (by omega) (by omega) ND.out)
      have NR := Lib.hid (hr.out.store (by omega) (dch (m.toNat % 16)))
      have hk : 3 ≤ k := by have := NL.out; have := hr.out.len; simp only [List.length_cons] at this NL; have := NL.out; omega
      have em : (m / 16).toNat = m.toNat / 16 := by omega
      have EM := Lib.hid em
      clear em
      go_wp2
      go_roundw
      case rel => exact ⟨m / 16, k - 1, _, rfl, rfl, by omega, by omega, by omega, by omega, by rw [EM.out]; exact ND, NR⟩
      case measure => simp [intOf]; omega
    · have hx := dig_index Tryd.prog 9 Tryd.underlying9 m m.toNat (by omega) (by omega)
      have ND := Lib.hid (dig_last hd.out (show m.toNat < 16 by omega))
      have NR := Lib.hid (hr.out.store (by omega) (dch m.toNat))
      have hsl := tail_slice w.heap.size k (by omega) (by omega)
      have hcv := tail_text NR.out (by omega)
      rw [ND.out] at hcv
      generalize hD : digB 16 n.toNat = D at *
      have HD := Lib.hid hD
      clear hD
      go_wp2
      go_ret2
      exact ⟨ret_pair HD.out.symm, NR.out.bel⟩

def oneOf (b : Int) : Prop := b = 8 ∨ b = 16

set_option maxHeartbeats 400000 in
theorem formatI_any (n b : Int) (w : World) (h1 : 0 ≤ n) (h2 : n ≤ 18446744073709551615) (hb : oneOf b) (ht : TzTab w) :
    Calls Tryd.prog 63 #[.int .u64 n, .int .i64 b] w fun e w' => e = .returned (.string ⟨(digB b.toNat n.toNat).toArray⟩) ∧ Below w.heap.size w w' := by
  have HT := Lib.hid ht
  clear ht
  rcases hb with rfl | rfl
  · go_enter Tryd.func63, Tryd.ntmps63
    go_wp2_with fail
    refine (bits_eight _ _ h1 h2 HT.out).mono ?_
    rintro e w' ⟨rfl, hb⟩
    have HB := Lib.hid hb
    clear hb
    go_wp2_with fail
    go_ret
    exact ⟨rfl, HB.out⟩
  · go_enter Tryd.func63, Tryd.ntmps63
    go_wp2_with fail
    refine (bits_sixteen _ _ h1 h2 HT.out).mono ?_
    rintro e w' ⟨rfl, hb⟩
    have HB := Lib.hid hb
    clear hb
    go_wp2_with fail
    go_ret
    exact ⟨rfl, HB.out⟩

theorem formatU_any (n b : Int) (w : World) (h1 : 0 ≤ n) (h2 : n ≤ 18446744073709551615) (hb : oneOf b) (ht : TzTab w) :
    Calls Tryd.prog 48 #[.int .u64 n, .int .i64 b] w fun e w' => e = .returned (.string ⟨(digB b.toNat n.toNat).toArray⟩) ∧ Below w.heap.size w w' := by
  have HT := Lib.hid ht
  have HO := Lib.hid hb
  clear ht hb
  go_enter Tryd.func48, Tryd.ntmps48
  go_wp2_with fail
  refine (formatI_any _ _ _ h1 h2 HO.out HT.out).mono ?_
  rintro e w' ⟨rfl, hb⟩
  have HB := Lib.hid hb
  clear hb
  go_wp2_with fail
  go_ret
  exact ⟨rfl, HB.out⟩

theorem oct_any (n : Int) (w : World) (h1 : 0 ≤ n) (h2 : n ≤ 18446744073709551615) (ht : TzTab w) :
    Calls Tryd.prog 38 #[.int .u64 n] w fun e w' => e = .returned (.string ⟨(digB (8 : Int).toNat n.toNat).toArray⟩) ∧ Below w.heap.size w w' := by
  have HT := Lib.hid ht
  clear ht
  go_enter Tryd.func38, Tryd.ntmps38
  go_wp2_with fail
  refine (formatU_any _ _ _ h1 h2 (.inl rfl) HT.out).mono ?_
  rintro e w' ⟨rfl, hb⟩
  have HB := Lib.hid hb
  clear hb
  go_wp2_with fail
  go_ret
  exact ⟨rfl, HB.out⟩


theorem TzTab.keep {w w' : World} (h : TzTab w) (hb : Below w.heap.size w w') : TzTab w' :=
  ⟨by rw [hb.cell (Lib.lt_of_cell h.1)]; exact h.1, by rw [hb.cell (Lib.lt_of_cell h.2)]; exact h.2⟩
end Go.Proofs.YtigkdehaepenhaaDoor.N
