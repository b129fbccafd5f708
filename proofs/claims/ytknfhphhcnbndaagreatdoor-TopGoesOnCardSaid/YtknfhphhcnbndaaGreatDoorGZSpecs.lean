/-
  A tool's long names, and its specs. Conditions: the tool's long names lie in memory; its letters are ASCII, at most 1000.
-/
import Derived.Test.YtknfhphhcnbndaaGreatDoorGZNamed
import Derived.Test.YtknfhphhcnbndaaGreatDoorGPut
set_option linter.unusedVariables false
set_option linter.unusedSimpArgs false
namespace Go.Proofs.YtknfhphhcnbndaaGreatDoor.Z
open List renaming setIfInBounds_toArray → lt, set_cons_zero → l0, set_cons_succ → ls
open Go.Proofs.YtknfhphhcnbndaaGreatDoor.A
open Go.Proofs.YtknfhphhcnbndaaGreatDoor.B
open Go.RowKit

def longM (t : Tl) (c : Int) : ByteArray := match t.longs.find? fun x => decide (x.1 = c) with
  | some x => x.2
  | none => ⟨#[]⟩
theorem find_at {l : List (Int × ByteArray)} {c : Int} {i : Nat} {x : Int × ByteArray} (hx : l[i]? = some x) (hc : x.1 = c) (h : ∀ (j : Nat) (y : Int × ByteArray), j < i → l[j]? = some y → y.1 ≠ c) : l.find? (fun x => decide (x.1 = c)) = some x := by
  rw [List.find?_eq_some_iff_getElem]
  obtain ⟨hi, e⟩ := List.getElem?_eq_some_iff.1 hx
  refine ⟨decide_eq_true hc, i, hi, e, fun j hj => ?_⟩
  have := h j _ hj (List.getElem?_eq_getElem (by omega))
  simpa using this
def LongRel (l : List (Int × ByteArray)) (c : Int) (w1 : World) (v : Value) (wr : World) : Prop := ∃ i : Nat, i ≤ l.length ∧ v = .int .i64 (i : Int) ∧ Hid (∀ (j : Nat) (x : Int × ByteArray), j < i → l[j]? = some x → x.1 ≠ c) ∧ Hid (Below w1.heap.size w1 wr)
set_option maxRecDepth 100000 in
set_option maxHeartbeats 4000000 in
theorem long_any (t : Tl) (lv : Value) (c : Int) (w : World) (hl : LongsAt w t lv) (hn : t.longs.length ≤ 1000) :
    Calls Tryz.prog 165 #[.agg #[.string t.name, .string t.flags, .string t.numbers, .string t.texts, lv, .int .i64 t.alone, .func (.func t.fn) #[] #[]], .int .u8 c] w fun e w' => e = .returned (.string (longM t c)) ∧ Below w.heap.size w w' := by
  obtain ⟨la, rfl, hr⟩ := hl
  have HR := Lib.hid hr
  have HM := Lib.hid (show longM t c = longM t c from rfl)
  unfold longM at HM
  obtain ⟨L, hL⟩ : ∃ L, t.longs = L := ⟨_, rfl⟩
  have HLe := Lib.hid (show longM t c = (match L.find? fun x => decide (x.1 = c) with | some x => x.2 | none => ⟨#[]⟩) from by rw [← hL]; rfl)
  rw [hL] at HR hn ⊢
  clear hr hL HM
  go_enter Tryz.func165, Tryz.ntmps165
  go_upto_region 1 with fail
  have HX := Lib.hid (heap_alloc_new w (.cells #[.string t.name, .string t.flags, .string t.numbers, .string t.texts, .slice la L.length L.length, .int .i64 t.alone, .func (.func t.fn) #[] #[]] 117))
  have HB := Lib.hid (show Below w.heap.size w (w.alloc (.cells #[.string t.name, .string t.flags, .string t.numbers, .string t.texts, .slice la L.length L.length, .int .i64 t.alone, .func (.func t.fn) #[] #[]] 117)) from (Below.refl _ _).alloc (Nat.le_refl _) _)
  generalize w.alloc (.cells #[.string t.name, .string t.flags, .string t.numbers, .string t.texts, .slice la L.length L.length, .int .i64 t.alone, .func (.func t.fn) #[] #[]] 117) = w1 at HX HB ⊢
  have c4 : w1.cell? ⟨w.heap.size, 4, none⟩ = some (.slice la L.length L.length) := by rw [cell_of_row _ _ _ _ _ _ HX.out]; rfl
  go_wp2_with fail
  go_loopw [10] (LongRel L c w1) (fun v _ => L.length - (intOf v).toNat)
  case atStart => exact ⟨0, Nat.zero_le _, rfl, Lib.hid (fun j x hj => by omega), Lib.hid (Below.refl _ _)⟩
  case round =>
    clear c4
    obtain ⟨i, hi, rfl, HNo, HBr⟩ := hrel
    by_cases hlt : i < L.length
    · have e1 : decide ((i : Int) < (L.length : Int)) = true := decide_eq_true (by omega)
      obtain ⟨x, hx⟩ : ∃ x, L[i]? = some x := ⟨_, List.getElem?_eq_getElem hlt⟩
      have HXi := Lib.hid hx
      obtain ⟨g, o, rfl, _, hr⟩ := (HR.out.keep (HB.out.trans (HBr.out.mono HB.out.size))).at_ hx
      have r0 : wr.cell? ⟨g, o + i * 2, none⟩ = some (.int .u8 x.1) := hr 0 _ rfl
      have r1 : wr.cell? ⟨g, o + i * 2 + 1, none⟩ = some (.string x.2) := hr 1 _ rfl
      clear hx hr
      have HBa := Lib.hid (HBr.out.alloc HBr.out.size (.cells #[.int .u8 x.1, .string x.2] 248))
      by_cases hc : x.1 = c
      · have e2 : (x.1 == c) = true := beq_iff_eq.2 hc
        have HF := Lib.hid (find_at HXi.out hc HNo.out)
        clear hc
        go_wp2_with fail
        go_ret
        exact ⟨by rw [HLe.out, HF.out]; rfl, HB.out.trans (HBa.out.mono HB.out.size)⟩
      · have e2 : (x.1 == c) = false := beq_eq_false_iff_ne.2 hc
        have HN := Lib.hid (show ∀ (j : Nat) (y : Int × ByteArray), j < i + 1 → L[j]? = some y → y.1 ≠ c from fun j y hj hy => by
          rcases Nat.lt_or_ge j i with q | q
          · exact HNo.out j y q hy
          · obtain rfl : j = i := by omega
            rw [HXi.out] at hy
            obtain rfl := Option.some.inj hy
            exact hc)
        clear hc
        go_wp2_with fail
        go_roundw
        case rel => exact ⟨i + 1, by omega, by simp, HN, HBa⟩
        case measure => simp [intOf]; omega
    · have e1 : decide ((i : Int) < (L.length : Int)) = false := decide_eq_false (by omega)
      have HF := Lib.hid (show L.find? (fun x => decide (x.1 = c)) = none from by
        rw [List.find?_eq_none]
        intro y hy
        obtain ⟨j, hj⟩ := List.mem_iff_getElem?.1 hy
        have := HNo.out j y (by have := (List.getElem?_eq_some_iff.1 hj).1; omega) hj
        simpa using this)
      go_wp2_with fail
      go_ret
      exact ⟨by rw [HLe.out, HF.out]; rfl, HB.out.trans (HBr.out.mono HB.out.size)⟩

/-! ### specs -/
def lettersT (t : Tl) : ByteArray := t.flags ++ t.numbers ++ t.texts
def specsM (t : Tl) : List Sp := (listB (lettersT t)).mapIdx fun i c => ⟨(c.toNat : Int), longM t (c.toNat : Int), decide ((t.flags.size : Int) ≤ (i : Int))⟩
theorem specs_len (t : Tl) : (specsM t).length = (lettersT t).size := by
  unfold specsM
  rw [List.length_mapIdx, listB_len]
theorem specs_at {t : Tl} {i : Nat} (h : i < (lettersT t).size) : (specsM t)[i]? = some ⟨(((lettersT t)[i]'h).toNat : Int), longM t (((lettersT t)[i]'h).toNat : Int), decide ((t.flags.size : Int) ≤ (i : Int))⟩ := by
  unfold specsM
  rw [List.getElem?_mapIdx]
  have e : (listB (lettersT t))[i]? = some ((lettersT t)[i]'h) := by
    unfold listB
    rw [Array.getElem?_toList]
    exact Array.getElem?_eq_getElem (by exact h)
  rw [e]
  rfl
theorem app_sz (a b : ByteArray) : (a ++ b).size = a.size + b.size := by
  rw [← size_list, ← size_list a, ← size_list b]
  simp
theorem infoSp : (Tryz.prog.info? 254).map (fun i => (i.zero, i.size, i.bytes)) = some (some (.agg #[.int .u8 0, .string ⟨#[]⟩, .bool false]), 3, 32) := by kernel_rfl
def zSp : Sp := ⟨0, ⟨#[]⟩, false⟩
theorem spec_made (n : Nat) : (madeCells (Value.agg #[.int .u8 0, .string ⟨#[]⟩, .bool false]).cells (n * 3)).toList = cellsC spC (List.replicate n zSp) := made_cells (z := (Value.agg #[.int .u8 0, .string ⟨#[]⟩, .bool false]).cells) rfl zSp rfl (by decide) n
def SpecRel (R : List Sp) (s : ByteArray) (w2 : World) (gk it : Nat) (_ _ : Value) (wr : World) : Prop := ∃ i : Nat, i ≤ R.length ∧ wr.heap[it]? = some (.stringIter s i) ∧ Hid (wr.ownsRow w2.heap.size 254 3 (.slice (some ⟨gk, 0, none⟩) R.length R.length) R.length (cellsC spC (setsL R zSp i))) ∧ Hid (Below w2.heap.size w2 wr)
theorem iterPos_at {w : World} {k : Nat} {s : ByteArray} {pos : Nat} (h : w.heap[k]? = some (.stringIter s pos)) : w.iterPos k = pos := by
  unfold World.iterPos; rw [h]
theorem owns_iter {w : World} {base : Nat} {e : TypeId} {size n : Nat} {v : Value} {xs : List Value} (h : w.ownsRow base e size v n xs) {k : Nat} {s : ByteArray} {pos : Nat} (hk : w.heap[k]? = some (.stringIter s pos)) (pos' : Nat) : (w.iterAt k s pos').ownsRow base e size v n xs :=
  owns_at h fun j hj => Lib.iterAt_other w k j s pos' fun q => by
    obtain ⟨cur, hc⟩ := owns_type h hj
    rw [q, hk] at hc
    cases hc
set_option maxRecDepth 100000 in
set_option maxHeartbeats 8000000 in
theorem specs_any (t : Tl) (lv : Value) (w : World) (hl : LongsAt w t lv) (hn : t.longs.length ≤ 1000) (ha : ∀ c ∈ listB (lettersT t), c.toNat < 128) (hz : t.flags.size ≤ 300 ∧ t.numbers.size ≤ 300 ∧ t.texts.size ≤ 300) :
    Calls Tryz.prog 106 #[tlV t lv] w fun e w' => ∃ v, e = .returned v ∧ w'.ownsRow w.heap.size 254 3 v (specsM t).length (cellsC spC (specsM t)) ∧ Below w.heap.size w w' := by
  obtain ⟨j0, hj0, hy0, hy1, hy2⟩ := info_parts infoSp
  have HLv := Lib.hid (show ∃ o n c, lv = .slice o n c from by obtain ⟨la, h, _⟩ := hl; exact ⟨_, _, _, h⟩)
  have HLg := Lib.hid (fun (c : Int) (X : World) (hb : Below w.heap.size w X) => long_any t lv c X (hl.keep hb) hn)
  have hLs : (lettersT t).size = t.flags.size + t.numbers.size + t.texts.size := by unfold lettersT; rw [app_sz, app_sz]
  have HA1 := Lib.hid (fun (W : World) => run_string_add_sum (P := Tryz.prog) W t.flags t.numbers (by omega))
  have HA2 := Lib.hid (fun (W : World) => run_string_add_sum (P := Tryz.prog) W (t.flags ++ t.numbers) t.texts (by rw [app_sz]; omega))
  have HSl := Lib.hid (specs_len t)
  have HSa := Lib.hid (fun i h => specs_at (t := t) (i := i) h)
  have HAs := Lib.hid (show ∀ i (h : i < (lettersT t).size), ((lettersT t)[i]'h).toNat < 128 from fun i h => ha _ (by
    unfold listB
    have : (lettersT t).data[i]'(by exact h) ∈ (lettersT t).data := Array.getElem_mem _
    exact Array.mem_toList_iff.2 this))
  have hLe : lettersT t = t.flags ++ t.numbers ++ t.texts := rfl
  rw [← hLe] at HA2
  clear hl ha hLe
  generalize lettersT t = L at *
  generalize t.flags ++ t.numbers = FN at HA1 HA2
  generalize specsM t = R at HSl HSa ⊢
  obtain ⟨hz1, hz2, hz3⟩ := hz
  obtain ⟨o0, n0, c0, rfl⟩ := HLv.out
  unfold tlV
  go_enter Tryz.func106, Tryz.ntmps106
  go_upto_region 1 with fail
  have HX := Lib.hid (heap_alloc_new w (.cells #[.string t.name, .string t.flags, .string t.numbers, .string t.texts, .slice o0 n0 c0, .int .i64 t.alone, .func (.func t.fn) #[] #[]] 117))
  have HB := Lib.hid (show Below w.heap.size w (w.alloc (.cells #[.string t.name, .string t.flags, .string t.numbers, .string t.texts, .slice o0 n0 c0, .int .i64 t.alone, .func (.func t.fn) #[] #[]] 117)) from (Below.refl _ _).alloc (Nat.le_refl _) _)
  generalize w.alloc (.cells #[.string t.name, .string t.flags, .string t.numbers, .string t.texts, .slice o0 n0 c0, .int .i64 t.alone, .func (.func t.fn) #[] #[]] 117) = w1 at HX HB ⊢
  have HLo := Lib.hid HB.out.size
  have HCs := Lib.hid (show ∀ X, Below w1.heap.size w1 X → X.cell? ⟨w.heap.size, 1, none⟩ = some (.string t.flags) ∧ X.heap[w.heap.size]? = some (.cells #[.string t.name, .string t.flags, .string t.numbers, .string t.texts, .slice o0 n0 c0, .int .i64 t.alone, .func (.func t.fn) #[] #[]] 117 (0, 0)) from fun X hX => by
    have q := (hX.block _ (heap_lt HX.out)).trans HX.out
    exact ⟨by rw [cell_of_row _ _ _ _ _ _ q]; rfl, q⟩)
  have c1 : w1.cell? ⟨w.heap.size, 1, none⟩ = some (.string t.flags) := by rw [cell_of_row _ _ _ _ _ _ HX.out]; rfl
  have c2 : w1.cell? ⟨w.heap.size, 2, none⟩ = some (.string t.numbers) := by rw [cell_of_row _ _ _ _ _ _ HX.out]; rfl
  have c3 : w1.cell? ⟨w.heap.size, 3, none⟩ = some (.string t.texts) := by rw [cell_of_row _ _ _ _ _ _ HX.out]; rfl
  have a1 := HA1.out w1
  have a2 := HA2.out w1
  have hLz : L.size ≤ 900 := by omega
  clear hLs
  go_upto_region 3 with (at_make; go_loud (refine wpList_make_full _ rfl (.tmp 16) (.tmp 16) 196 rfl w1.heap.size 254 j0 _ 3 Tryz.underlying196 hj0 hy0 hy1 .i64 .i64 _ _ L.size rfl rfl rfl rfl (by rw [hy2]; omega) (by unfold maxLen; omega) (Nat.le_refl _) ?_; intro w3 hown hgrow))
  rw [spec_made] at hown
  have HB3 := Lib.hid ((Below.refl w1.heap.size w1).grown hgrow (Nat.le_refl _) (fun j hj => by cases hj))
  have HO3 := Lib.hid (show w3.ownsRow w1.heap.size 254 3 (.slice (some ⟨w1.heap.size, 0, none⟩) R.length R.length) R.length (cellsC spC (setsL R zSp 0)) from by rw [sets_zero, HSl.out]; exact hown)
  have HG3 := Lib.hid (show w1.heap.size < w3.heap.size from (HO3.out.lt _ rfl).2)
  clear hown hgrow c1 c2 c3 a1 a2
  have hRl := HSl.out
  go_wp2_with fail
  go_loopw [5, 6] (SpecRel R L w1 w1.heap.size w3.heap.size) (fun _ _ W => L.size - W.iterPos w3.heap.size)
  case atStart => exact ⟨0, Nat.zero_le _, World.iter_heap w3 L 0, Lib.hid (owns_to HO3.out ((Below.refl _ _).alloc (Nat.le_refl _) _)), Lib.hid (HB3.out.alloc HB3.out.size _)⟩
  case round =>
    obtain ⟨i, hi, hk, HO, HBr⟩ := hrel
    have HK := Lib.hid hk
    by_cases hlt : i < L.size
    · have hasc := HAs.out i hlt
      have HRa := Lib.hid (HSa.out i hlt)
      obtain ⟨c, hc⟩ : ∃ c, L[i]'hlt = c := ⟨_, rfl⟩
      rw [hc] at HRa
      have hnx : ∀ ty, (Instr.next (.pointer (some ⟨w3.heap.size, 0, none⟩)) true ty).run Tryz.prog wr = _ := fun ty => Lib.run_next_ascii_at wr _ L i ty hk hlt hasc
      have HIt := Lib.hid (Lib.iterAt_heap wr w3.heap.size L i (i + 1) hk)
      have HO1 := Lib.hid (owns_iter HO.out hk (i + 1))
      have HB1 := Lib.hid (Lib.below_iterAt HBr.out (Nat.le_of_lt HG3.out) L (i + 1))
      have hpz := iterPos_at hk
      have HPz := Lib.hid hpz
      have hiR : i < R.length := by omega
      obtain ⟨bv, hbv⟩ : ∃ b, decide (t.flags.size ≤ i) = b := ⟨_, rfl⟩
      rw [show decide ((t.flags.size : Int) ≤ (i : Int)) = bv from by rw [← hbv]; simp] at HRa
      have HCl := Lib.hid (HLg.out (c.toNat : Int))
      unfold tlV at HCl
      generalize longM t (c.toNat : Int) = lg at HRa HCl
      clear hk hpz
      go_upto_region 7 with fail
      generalize wr.iterAt w3.heap.size L (i + 1) = w4 at HIt HO1 HB1 ⊢
      clear hnx hasc hc
      have hkk : ¬ (L.size ≤ i) := by omega
-- TILL 7
      refine Till.region (z := 13) (S := fun w' => Below w4.heap.size w4 w') (by kernel_rfl) ((Below.refl _ _).drew) (fun hHeld => ?_)
      refine Till.tz 0 (.slice (some ⟨w1.heap.size, 0, none⟩) R.length R.length) rfl (fun w0 hS0 => ?_) ?_
      · go_simp
      try simp only [Act.put, lt, l0, ls]
      refine Till.tz 1 (.int .i64 (i : Int)) rfl (fun w0 hS0 => ?_) ?_
      · go_simp
      try simp only [Act.put, lt, l0, ls]
      refine Till.tz 2 (.int .u8 (c.toNat : Int)) rfl (fun w0 hS0 => ?_) ?_
      · go_simp
      try simp only [Act.put, lt, l0, ls]
      refine Till.yz 3 (.agg #[.string t.name, .string t.flags, .string t.numbers, .string t.texts, .slice o0 n0 c0, .int .i64 t.alone, .func (.func t.fn) #[] #[]]) rfl (yieldsIf_load_mid (by rfl) 117 (.tmp 1) rfl w.heap.size 0 rfl [.string t.name, .string t.flags, .string t.numbers, .string t.texts, .slice o0 n0 c0, .int .i64 t.alone, .func (.func t.fn) #[] #[]] _ (fun w0 hS0 => rangeB (HCs.out _ (below_two HB1.out hS0)).2) Tryz.underlying117 rfl sizeTl) ?_
      try simp only [Act.put, lt, l0, ls]
      refine Till.tz 4 (.int .u8 (c.toNat : Int)) rfl (fun w0 hS0 => ?_) ?_
      · go_simp
      try simp only [Act.put, lt, l0, ls]
      refine Till.tz 6 (.int .i64 (i : Int)) rfl (fun w0 hS0 => ?_) ?_
      · go_simp
      try simp only [Act.put, lt, l0, ls]
      refine Till.tz 7 (.pointer (some ⟨w.heap.size, 1, none⟩)) rfl (fun w0 hS0 => ?_) ?_
      · go_simp
      try simp only [Act.put, lt, l0, ls]
      refine Till.tz 8 (.string t.flags) rfl (fun w0 hS0 => ?_) ?_
      · have b4 := (HCs.out _ (below_two HB1.out hS0)).1; go_simp
      try simp only [Act.put, lt, l0, ls]
      refine Till.tz 9 (.int .i64 (t.flags.size : Int)) rfl (fun w0 hS0 => ?_) ?_
      · go_simp
      try simp only [Act.put, lt, l0, ls]
      refine Till.tz 10 (.bool bv) rfl (fun w0 hS0 => ?_) ?_
      · go_simp
      try simp only [Act.put, lt, l0, ls]
      refine Till.tn 5 rfl (fun K hK => ?_)
      go_simp
      refine (HCl.out _ (below_two HB.out (below_two HB1.out hHeld))).mono ?_
      rintro e w5 ⟨rfl, hb5⟩
      have hH5 : Below w4.heap.size w4 w5 := below_two hHeld hb5
      clear hb5
      go_wp2_with fail
      refine hK.out _ _ (fun _ => hH5) ?_
      clear hK K
      try simp only [Act.put, lt, l0, ls]
      refine Till.tz 11 (oi := ⟨some 37, .build 254 #[(0, .tmp 28), (1, .tmp 31), (2, .tmp 36)], 254, "tools.go:82", #[⟨2, .data⟩, ⟨5, .data⟩, ⟨10, .data⟩], none⟩) (.agg #[.int .u8 (c.toNat : Int), .string lg, .bool bv]) rfl (fun w0 hS0 => ?_) ?_
      · go_simp
      try simp only [Act.put, lt, l0, ls]
      refine Till.tz 12 (oi := ⟨some 38, .indexAddr 196 (.tmp 26) (.tmp 27), 0, "tools.go:82", #[⟨0, .data⟩, ⟨1, .data⟩, ⟨0, .phase⟩, ⟨1, .phase⟩, ⟨2, .phase⟩, ⟨3, .phase⟩, ⟨4, .phase⟩, ⟨5, .phase⟩, ⟨6, .phase⟩, ⟨7, .phase⟩, ⟨8, .phase⟩, ⟨9, .phase⟩, ⟨10, .phase⟩, ⟨11, .phase⟩], none⟩) (.pointer (some ⟨w1.heap.size, i * 3, none⟩)) rfl (fun w0 hS0 => ?_) ?_
      · go_simp
      try simp only [Act.put, lt, l0, ls]
      refine Till.tn 13 rfl (fun K hK => ?_)
      have HO5 := Lib.hid (owns_to HO1.out hH5)
      have HIe := Lib.hid ((hH5.block _ (heap_lt HIt.out)).trans HIt.out)
      have HB5 := Lib.hid (below_two HB1.out hH5)
      have HOn := Lib.hid (show (w5.setCells w1.heap.size (i * 3) [.int .u8 (c.toNat : Int), .string lg, .bool bv]).ownsRow w1.heap.size 254 3 (.slice (some ⟨w1.heap.size, 0, none⟩) R.length R.length) R.length (cellsC spC (setsL R zSp (i + 1))) from by
        have := owns_put spC_len HO5.out (i := i) (by rw [sets_len (Nat.le_of_lt hiR)]; exact hiR) ⟨(c.toNat : Int), lg, bv⟩
        rwa [sets_step HRa.out] at this)
      have HBn := Lib.hid (below_cells w1.heap.size (Nat.le_refl _) [.int .u8 (c.toNat : Int), .string lg, .bool bv] (i * 3) w5 HB5.out)
      have HTh := Lib.hid (show w5.there w1.heap.size (i * 3) (#[.int .u8 (c.toNat : Int), .string lg, .bool bv] : Array Value).size from owns_there spC_len HO5.out (i := i) (by rw [sets_len (Nat.le_of_lt hiR)]; exact hiR))
      refine step_store_mid rfl 254 (.tmp 38) (.tmp 37) rfl w1.heap.size (i * 3) #[.int .u8 (c.toNat : Int), .string lg, .bool bv] rfl rfl HTh.out sizeSp (by simp [Value.oneCell']) ?_
      refine hK.out _ _ (fun q => absurd rfl q) ?_
      clear hK K
      try simp only [Act.put, lt, l0, ls]
      refine Till.done (by kernel_rfl) ?_
-- TILL 7 END
      go_wp2_with fail
      go_roundw
      case rel => exact ⟨i + 1, by omega, (heap_setCells_ne w1.heap.size (by have := HG3.out; omega) _ _ _).trans HIe.out, HOn, HBn⟩
      case measure =>
        rw [iterPos_at ((heap_setCells_ne w1.heap.size (by have := HG3.out; omega) _ _ _).trans HIe.out), HPz.out]
        omega
    · have hiL : i = L.size := by omega
      have hnx : ∀ ty, (Instr.next (.pointer (some ⟨w3.heap.size, 0, none⟩)) true ty).run Tryz.prog wr = .ok (.tuple #[.bool false]) wr := fun ty => Lib.run_next_end_at wr _ L i ty hk hlt
      have HOe := Lib.hid (show wr.ownsRow w1.heap.size 254 3 (.slice (some ⟨w1.heap.size, 0, none⟩) R.length R.length) R.length (cellsC spC R) from by
        have := HO.out
        rw [hiL, ← hRl, sets_all] at this
        exact this)
      go_wp2_with fail
      go_ret
      exact ⟨_, rfl, by have q := owns_low HOe.out HLo.out; rw [hRl] at q ⊢; exact q, HB.out.trans (HBr.out.mono HB.out.size)⟩
end Go.Proofs.YtknfhphhcnbndaaGreatDoor.Z
