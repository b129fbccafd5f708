/-
  What stamp.Format returns: the format, with what each directive writes in its place. Conditions: at most 1000000 bytes; the library's tables and the package's lie as their text lays them.
-/
import Derived.Test.YtiegibgllnojcaaDoorSTell
import Derived.Deep.RegionHeld3
import Derived.IntWalk
set_option linter.unusedVariables false
namespace Go.Proofs.YtiegibgllnojcaaDoor
open Go.RowKit

/-- A format of a time, written. -/
def fmtT (t o : Int) (l : List UInt8) : List UInt8 := fmtL (oneT t o) l
theorem oneT_pct (t o : Int) : oneT t o 37 = some [37] := rfl
/-- A directive, told or not, and what follows. -/
theorem fmtT_pair (t o : Int) (e : UInt8) (r : List UInt8) : fmtT t o (37 :: e :: r) = (oneT t o e).getD [37, e] ++ fmtT t o r := by
  unfold fmtT
  cases h : oneT t o e with
  | some s => rw [fmtL_told _ _ h]; rfl
  | none =>
    rw [fmtL_none _ _ h, fmtL_plain]
    · rfl
    · intro hc
      subst hc
      rw [oneT_pct] at h
      cases h
theorem fmtT_len (t o : Int) (t0 : -9223372036854775808 ≤ t) (t1 : t ≤ 9223372036854775807) (o0 : -9223372036854775808 ≤ o) (o1 : o ≤ 9223372036854775807) (l : List UInt8) : (fmtT t o l).length ≤ 26 * l.length :=
  fmtL_length _ 26 (fun c s h => oneT_len t o t0 t1 o0 o1 c s h) (by decide) l.length l (Nat.le_refl _)
theorem get_data (f : ByteArray) (k : Nat) (h : k < f.size) : f.data.toList.drop k = (f[k]'h) :: f.data.toList.drop (k + 1) := List.drop_eq_getElem_cons (l := f.data.toList) (by simpa using h)
theorem two_bytes (f : ByteArray) (k : Nat) (h : k + 1 < f.size) : (f.extract k (k + 2)).data.toList = [f[k]'(by omega), f[k + 1]'h] := by
  have e1 := get_data f k (by omega)
  have e2 := get_data f (k + 1) h
  rw [ByteArray.data_extract, Array.toList_extract, List.extract_eq_take_drop, e1, e2, show k + 2 - k = 2 by omega]
  rfl

/-- The moment in the block B of the world W0 (whatever is written behind it). -/
structure InFmt (B : Nat) (t o y m d h i s wd yd : Int) (w0 : World) : Prop where
  lt : B < w0.heap.size
  ct : w0.cell? ⟨B, 0, none⟩ = some (.int .i64 t)
  co : w0.cell? ⟨B, 1, none⟩ = some (.int .i64 o)
  c0 : w0.cell? ⟨B, 2, none⟩ = some (.int .i64 y)
  c1 : w0.cell? ⟨B, 3, none⟩ = some (.int .i64 m)
  c2 : w0.cell? ⟨B, 4, none⟩ = some (.int .i64 d)
  c3 : w0.cell? ⟨B, 5, none⟩ = some (.int .i64 h)
  c4 : w0.cell? ⟨B, 6, none⟩ = some (.int .i64 i)
  c5 : w0.cell? ⟨B, 7, none⟩ = some (.int .i64 s)
  c6 : w0.cell? ⟨B, 8, none⟩ = some (.int .i64 wd)
  c7 : w0.cell? ⟨B, 9, none⟩ = some (.int .i64 yd)
theorem InFmt.start (w : World) (t o y m d h i s wd yd : Int) : InFmt w.heap.size t o y m d h i s wd yd (w.alloc (.cells #[.int .i64 t, .int .i64 o, .int .i64 y, .int .i64 m, .int .i64 d, .int .i64 h, .int .i64 i, .int .i64 s, .int .i64 wd, .int .i64 yd] 42)) := by
  refine ⟨by simp, ?_, ?_, ?_, ?_, ?_, ?_, ?_, ?_, ?_, ?_⟩
  all_goals simp [go_sem]
theorem InFmt.keep {B : Nat} {t o y m d h i s wd yd : Int} {w0 w' : World} (k : InFmt B t o y m d h i s wd yd w0) (hb : Below w0.heap.size w0 w') : InFmt B t o y m d h i s wd yd w' := by
  have l := k.lt
  have hs := hb.size
  exact ⟨by omega,
    by rw [hb.cell (p := ⟨B, 0, none⟩) l]; exact k.ct, by rw [hb.cell (p := ⟨B, 1, none⟩) l]; exact k.co,
    by rw [hb.cell (p := ⟨B, 2, none⟩) l]; exact k.c0, by rw [hb.cell (p := ⟨B, 3, none⟩) l]; exact k.c1, by rw [hb.cell (p := ⟨B, 4, none⟩) l]; exact k.c2, by rw [hb.cell (p := ⟨B, 5, none⟩) l]; exact k.c3,
    by rw [hb.cell (p := ⟨B, 6, none⟩) l]; exact k.c4, by rw [hb.cell (p := ⟨B, 7, none⟩) l]; exact k.c5, by rw [hb.cell (p := ⟨B, 8, none⟩) l]; exact k.c6, by rw [hb.cell (p := ⟨B, 9, none⟩) l]; exact k.c7⟩
theorem Bld.drew {W0 : World} {b : Nat} {l : List UInt8} {w : World} (h : Bld W0 b l w) : Bld W0 b l w.drew := h.keep ⟨rfl, rfl, rfl, Nat.le_refl _, fun _ _ => rfl⟩
theorem cells_of {W0 w' : World} {b B : Nat} {l : List UInt8} {t o y m d h i s wd yd : Int} (hB : Bld W0 b l w') (k : InFmt B t o y m d h i s wd yd W0) :
    w'.cell? ⟨B, 0, none⟩ = some (.int .i64 t) ∧ w'.cell? ⟨B, 1, none⟩ = some (.int .i64 o) ∧ w'.cell? ⟨B, 2, none⟩ = some (.int .i64 y) ∧ w'.cell? ⟨B, 3, none⟩ = some (.int .i64 m) ∧ w'.cell? ⟨B, 4, none⟩ = some (.int .i64 d) ∧ w'.cell? ⟨B, 5, none⟩ = some (.int .i64 h) ∧ w'.cell? ⟨B, 6, none⟩ = some (.int .i64 i) ∧ w'.cell? ⟨B, 7, none⟩ = some (.int .i64 s) ∧ w'.cell? ⟨B, 8, none⟩ = some (.int .i64 wd) ∧ w'.cell? ⟨B, 9, none⟩ = some (.int .i64 yd) :=
  have k := k.keep hB.2.1
  ⟨k.ct, k.co, k.c0, k.c1, k.c2, k.c3, k.c4, k.c5, k.c6, k.c7⟩

def FmtRel (f : ByteArray) (t o : Int) (W0 : World) (b : Nat) (v : Value) (w' : World) : Prop :=
  ∃ (k : Nat) (out : List UInt8), k ≤ f.size ∧ v = .int .i64 (k : Int) ∧ Bld W0 b out w' ∧ out ++ fmtT t o (f.data.toList.drop k) = fmtT t o f.data.toList ∧ out.length ≤ 26 * f.size

set_option maxHeartbeats 4000000 in
set_option maxRecDepth 100000 in
theorem format_any (f : ByteArray) (t o : Int) (w : World) (hT : STab w) (hf : f.size ≤ 1000000) (t0 : -9223372036854775808 ≤ t) (t1 : t ≤ 9223372036854775807) (o0 : -9223372036854775808 ≤ o) (o1 : o ≤ 9223372036854775807) :
    Calls Tryd.prog 10 #[.string f, .int .i64 t, .int .i64 o] w fun e w' => e = .returned (.string (txt (fmtT t o f.data.toList))) ∧ Below w.heap.size w w' := by
  have HT := Lib.hid hT
  have hlen := fmtT_len t o t0 t1 o0 o1 f.data.toList
  rw [show f.data.toList.length = f.size by simp] at hlen
  obtain ⟨y, m, d, h, i, s, wd, yd, hv, hone, B⟩ := date_of t o t0 t1 o0 o1
  have HO := Lib.hid hone
  have BB := Lib.hid B
  have hl1 : ∀ c l, oneT t o c = some l → l.length ≤ 26 := fun c l h => oneT_len t o t0 t1 o0 o1 c l h
  have HL := Lib.hid hl1
  have cO := of_any t o w t0 t1 hT.len
  rw [hv, agg_of] at cO
  clear hT hone B hl1 hv
  go_enter Tryd.func10, Tryd.ntmps10
  go_wp2_with fail
  refine cO.mono ?_
  rintro e w1 ⟨rfl, hb⟩
  have HB1 := Lib.hid hb
  have HT1 := Lib.hid (HT.out.keep hb)
  clear hb HT cO
  go_wp2_with fail
  have HM := Lib.hid (Bld.made (w1.alloc (.cells #[.int .i64 t, .int .i64 o, .int .i64 y, .int .i64 m, .int .i64 d, .int .i64 h, .int .i64 i, .int .i64 s, .int .i64 wd, .int .i64 yd] 42)))
  have HC := Lib.hid (InFmt.start w1 t o y m d h i s wd yd)
  have HW0 : Hid (Below w.heap.size w (w1.alloc (.cells #[.int .i64 t, .int .i64 o, .int .i64 y, .int .i64 m, .int .i64 d, .int .i64 h, .int .i64 i, .int .i64 s, .int .i64 wd, .int .i64 yd] 42))) := Lib.hid (HB1.out.trans ((Below.refl _ _).alloc (HB1.out.size) _))
  have HT0 : Hid (STab (w1.alloc (.cells #[.int .i64 t, .int .i64 o, .int .i64 y, .int .i64 m, .int .i64 d, .int .i64 h, .int .i64 i, .int .i64 s, .int .i64 wd, .int .i64 yd] 42))) := Lib.hid (HT1.out.keep ((Below.refl _ _).alloc (Nat.le_refl _) _))
  go_loopw [9] (FmtRel f t o (w1.alloc (.cells #[.int .i64 t, .int .i64 o, .int .i64 y, .int .i64 m, .int .i64 d, .int .i64 h, .int .i64 i, .int .i64 s, .int .i64 wd, .int .i64 yd] 42)) (w1.heap.size + 1)) (fun v _ => f.size - (intOf v).toNat)
  case atStart =>
    have hm := HM.out
    simp only [World.size_alloc] at hm
    exact ⟨0, [], Nat.zero_le _, rfl, hm, rfl, by simp⟩
  case round =>
    generalize (w1.alloc (.cells #[.int .i64 t, .int .i64 o, .int .i64 y, .int .i64 m, .int .i64 d, .int .i64 h, .int .i64 i, .int .i64 s, .int .i64 wd, .int .i64 yd] 42)) = W0 at *
    obtain ⟨k, out, hk, rfl, hb, hr, hol⟩ := hrel
    have HB := Lib.hid hb
    have HR := Lib.hid hr
    have HCC := Lib.hid (cells_of hb HC.out)
    clear hb hr
    by_cases hlt : k < f.size
    · obtain ⟨c, hc⟩ : ∃ c, f[k]'hlt = c := ⟨_, rfl⟩
      have HD : Hid (f.data.toList.drop k = c :: f.data.toList.drop (k + 1)) := Lib.hid (by rw [get_data f k hlt, hc])
      obtain ⟨n, hn⟩ : ∃ n, c.toNat = n := ⟨_, rfl⟩
      have HN : Hid ((c = 37) ↔ n = 37) := Lib.hid (by rw [← UInt8.toNat_inj, hn]; rfl)
      have HE : Hid (∀ l, l ++ fmtT t o (f.data.toList.drop (k + 1)) = fmtT t o (f.data.toList.drop k) → out ++ l ++ fmtT t o (f.data.toList.drop (k + 1)) = fmtT t o f.data.toList ∧ (out ++ l).length ≤ 26 * f.size) := Lib.hid (fun l hl => by
        have e : out ++ l ++ fmtT t o (f.data.toList.drop (k + 1)) = fmtT t o f.data.toList := by rw [List.append_assoc, hl, HR.out]
        have := congrArg List.length e
        rw [List.length_append] at this
        exact ⟨e, by omega⟩)
      have HE2 : Hid (∀ l, l ++ fmtT t o (f.data.toList.drop (k + 2)) = fmtT t o (f.data.toList.drop k) → out ++ l ++ fmtT t o (f.data.toList.drop (k + 2)) = fmtT t o f.data.toList ∧ (out ++ l).length ≤ 26 * f.size) := Lib.hid (fun l hl => by
        have e : out ++ l ++ fmtT t o (f.data.toList.drop (k + 2)) = fmtT t o f.data.toList := by rw [List.append_assoc, hl, HR.out]
        have := congrArg List.length e
        rw [List.length_append] at this
        exact ⟨e, by omega⟩)
      by_cases h37 : n = 37
      · have hx : ((n : Int) != 37) = false := by rw [h37]; rfl
        by_cases hlast : k + 1 = f.size
        · have hq : ((k : Int) == (f.size : Int) - 1) = true := beq_iff_eq.2 (by omega)
          have HF := Lib.hid (HE.out [c] (by rw [HD.out, show f.data.toList.drop (k + 1) = [] from List.drop_eq_nil_of_le (by simp; omega)]; unfold fmtT; rw [fmtL_nil, fmtL_last]; rfl))
          clear h37 HE HE2
          go_wp2_with fail
          refine (HB.out.writeByte (by omega) c _ (by rw [hn])).mono ?_
          rintro e w3 ⟨rfl, h3⟩
          have HB3 := Lib.hid h3
          clear h3
          go_wp2_with fail
          go_roundw
          case rel => exact ⟨k + 1, out ++ [c], by omega, by go_num, HB3.out, HF.out.1, HF.out.2⟩
          case measure => simp [intOf]; omega
        · have hq : ((k : Int) == (f.size : Int) - 1) = false := beq_eq_false_iff_ne.2 (by omega)
          have hin : k + 1 < f.size := by omega
          obtain ⟨c2, hc2⟩ : ∃ c2, f[k + 1]'hin = c2 := ⟨_, rfl⟩
          have hdir := two_bytes f k hin
          rw [hc, hc2] at hdir
          obtain ⟨D, hD⟩ : ∃ D, f.extract k (k + 2) = D := ⟨_, rfl⟩
          rw [hD] at hdir
          have hDs : D.size = 2 := by have := congrArg List.length hdir; simpa using this
          have hD1 : D[1]'(by omega) = c2 := by
            have e1 := get_data D 1 (by omega)
            rw [hdir] at e1
            exact (List.cons.inj e1).1.symm
          obtain ⟨S, hS⟩ : ∃ S, (oneT t o c2).getD [c, c2] = S := ⟨_, rfl⟩
          have hSl : S.length ≤ 26 := by
            rw [← hS]
            cases ho : oneT t o c2 with
            | none => simp
            | some l => exact HL.out c2 l ho
          have HF := Lib.hid (HE2.out S (by rw [HD.out, get_data f (k + 1) hin, hc2, HN.out.2 h37, fmtT_pair, ← hS, HN.out.2 h37]))
          have cT := fun (wx : World) (hx : STab wx) => told_any t o y m d h i s wd yd BB.out D (by omega) wx hx c2 hD1
          rw [hdir, ← HO.out, hS] at cT
          have HCT := Lib.hid cT
          have i1 : (k : Int) + 2 ≤ (f.size : Int) := by omega
          have i2 : (0 : Int) ≤ (k : Int) := by omega
          have i3 : (k : Int) ≤ (k : Int) + 2 := by omega
          have i4 : (0 : Int) ≤ (k : Int) + 2 := by omega
          have i5 : ((k : Int) + 2).toNat = k + 2 := by omega
          have hw : IntKind.i64.wrap ((k : Int) + 2) = (k : Int) + 2 := IntWalk.i64_in _ (by omega)
          clear h37 HE HE2 hc2 hdir hD1 hS cT
          have hBd := HB.out.drew
          go_wp2_with fail
          go_region_held3 (fun w' => w'.cell? ⟨w1.heap.size, 0, none⟩ = some (.int .i64 t) ∧ w'.cell? ⟨w1.heap.size, 1, none⟩ = some (.int .i64 o) ∧ w'.cell? ⟨w1.heap.size, 2, none⟩ = some (.int .i64 y) ∧ w'.cell? ⟨w1.heap.size, 3, none⟩ = some (.int .i64 m) ∧ w'.cell? ⟨w1.heap.size, 4, none⟩ = some (.int .i64 d) ∧ w'.cell? ⟨w1.heap.size, 5, none⟩ = some (.int .i64 h) ∧ w'.cell? ⟨w1.heap.size, 6, none⟩ = some (.int .i64 i) ∧ w'.cell? ⟨w1.heap.size, 7, none⟩ = some (.int .i64 s) ∧ w'.cell? ⟨w1.heap.size, 8, none⟩ = some (.int .i64 wd) ∧ w'.cell? ⟨w1.heap.size, 9, none⟩ = some (.int .i64 yd)) (first | exact cells_of hB4 HC.out | exact cells_of hB3 HC.out | exact cells_of hBd HC.out) (first | (go_at_call 22; refine (HCT.out _ (HT0.out.keep hBd.2.1)).mono ?_; rintro e w3 ⟨rfl, hb3⟩; have hB3 := hBd.keep hb3) | (go_at_call 21; refine (hB3.writeString (by omega) (txt S) (by rw [txt_size]; omega)).mono ?_; rintro e w4 ⟨⟨v4, rfl⟩, hB4⟩))
          rw [txt_list] at hB4
          have HB4 := Lib.hid hB4
          clear hB4 hB3 hBd
          go_wp2_with fail
          go_roundw
          case rel => exact ⟨k + 2, out ++ S, by omega, by go_num, HB4.out, HF.out.1, HF.out.2⟩
          case measure => simp [intOf]; omega
      · have hx : ((n : Int) != 37) = true := by simp; omega
        have HF := Lib.hid (HE.out [c] (by rw [HD.out]; unfold fmtT; rw [fmtL_plain _ _ (fun e => h37 (HN.out.1 e))]; rfl))
        clear h37 HE HE2
        go_wp2_with fail
        refine (HB.out.writeByte (by omega) c _ (by rw [hn])).mono ?_
        rintro e w3 ⟨rfl, h3⟩
        have HB3 := Lib.hid h3
        clear h3
        go_wp2_with fail
        go_roundw
        case rel => exact ⟨k + 1, out ++ [c], by omega, by go_num, HB3.out, HF.out.1, HF.out.2⟩
        case measure => simp [intOf]; omega
    · have hkk : k = f.size := by omega
      go_wp2_with fail
      refine HB.out.string.mono ?_
      rintro e w3 ⟨rfl, hb⟩
      have HB3 := Lib.hid (HW0.out.trans (hb.mono (by have := HW0.out.size; omega)))
      clear hb
      go_wp2_with fail
      go_ret
      refine ⟨ret_str ?_, HB3.out⟩
      rw [← HR.out, hkk, List.drop_eq_nil_of_le (by simp)]
      unfold fmtT
      rw [fmtL_nil, List.append_nil]
end Go.Proofs.YtiegibgllnojcaaDoor
