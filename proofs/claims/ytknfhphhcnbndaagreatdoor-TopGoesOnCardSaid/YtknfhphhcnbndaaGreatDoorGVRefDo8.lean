/-
  What the reference's Do makes of a change of the kind 4. Conditions: at most 1000000 nodes and entries, texts of at most 1000000 bytes.
  What the reference's Do makes of a change of the kind 5. Conditions: at most 1000000 nodes and entries, texts of at most 1000000 bytes.
  What the reference's Do makes of a change of the kind 6. Conditions: at most 1000000 nodes and entries, texts of at most 1000000 bytes.
  What the reference's Do makes of a change of the kind 8. Conditions: at most 1000000 nodes and entries, texts of at most 1000000 bytes.
-/
import Derived.Test.YtknfhphhcnbndaaGreatDoorGVItem
import Derived.Deep.RegionHeld3
set_option linter.unusedSimpArgs false
set_option linter.unusedVariables false
namespace Go.Proofs.YtknfhphhcnbndaaGreatDoor.V
open Go.RowKit Go.BigFrame

set_option maxRecDepth 100000 in
set_option maxHeartbeats 8000000 in
theorem rdo_set4 (M : List Nd) (L : List It) (v : Rv) (c : Chg) (w : World) (H : Rs M L v w) (R : Rel M L) (hM : M.length ≤ 1000000) (hL : L.length ≤ 1000000) (hn : 0 < M.length) (hs : c.name.size ≤ 1000000) (hts : c.text.size ≤ 1000000) (hw : wrongM M c = 0) (hk : c.kind = 4)
    (j : Nat) (y : Nd) (ht : c.to = (j : Int)) (hy : M[j]? = some y) (h6 : c.kind = 6 → 0 ≤ c.a ∧ c.a ≤ 2) :
    Calls Tryz.prog 41 #[rvV v, chgV c] w (RDoP M L c w) := by
  have hk4 : 4 ≤ c.kind := by omega
  have h7 : c.kind ≠ 7 := by omega
  have hk8 : c.kind ≤ 8 := by omega
  have HKK := Lib.hid hk
  clear hk
  have HC := Lib.hid (fun w' hb => rwrong_any M L v c w' (H.keep hb) R hM hL hn hs hts)
  have HH := Lib.hid H
  have D0 := DIn.begin w v c
  have HRs := Lib.hid (do_set hw hk4 h7 ht hy)
  have HW := Lib.hid hw
  rw [hw] at HC
  clear hw
  obtain ⟨an, cn, hvn⟩ := owns_form H.hn
  obtain ⟨vn, vl, vc, vd, va, vf⟩ := v
  simp only at hvn
  subst hvn
  clear H
  have k0 : (c.kind == 0) = false := beq_eq_false_iff_ne.2 (by omega)
  have k1 : (c.kind == 1) = false := beq_eq_false_iff_ne.2 (by omega)
  have k2 : (c.kind == 2) = false := beq_eq_false_iff_ne.2 (by omega)
  have k3 : (c.kind == 3) = false := beq_eq_false_iff_ne.2 (by omega)
  have k7 : (c.kind == 7) = false := beq_eq_false_iff_ne.2 h7
  have k44 : decide (c.kind < 4) = false := decide_eq_false (by omega)
  have HK4 := Lib.hid hk4
  have HK8 := Lib.hid hk8
  have HK7 := Lib.hid h7
  have HT := Lib.hid ht
  have HY := Lib.hid hy
  have H6 := Lib.hid h6
  clear hk4 h7 hk8 ht hy h6
  unfold chgBox nilsR at D0
  unfold rvV chgV at HC
  unfold rvV chgV
  go_enter Tryz.func41, Tryz.ntmps41
  go_upto_region 1 with fail
  generalize hw2 : ((w.alloc _).alloc _).alloc _ = w2 at D0
  clear hw2
  have HD := Lib.hid D0
  have hb0 := D0.box
  have hc0 := D0.chg
  unfold chgBox at hc0
  have HB0 := Lib.hid hb0
  have HC0 := Lib.hid hc0
  clear hb0 hc0 D0
  go_wp2_with (first
    | fail
    | (refine wpList_load_row rfl 31 (.tmp 2) rfl w.heap.size rfl _ _ _ _ HB0.out Tryz.underlying31 rfl (by rw [sizeRef]; rfl) ?_)
    | (refine wpList_load_row rfl 89 (.tmp 3) rfl (w.heap.size + 1) rfl _ _ _ _ HC0.out Tryz.underlying89 rfl (by rw [sizeChg]; rfl) ?_))
  refine (HC.out _ HD.out.below).mono ?_
  rintro e2 w3 ⟨rfl, hb3⟩
  have D3 := HD.out.keep hb3
  have HD3 := Lib.hid D3
  have HR3 := Lib.hid (HH.out.keep D3.below)
  obtain ⟨q0, q1, q2, q3, q4, q5, q6, q7⟩ := chg_cells D3.chg
  have p0 : w3.cell? ⟨w.heap.size, 0, none⟩ = some (.slice an M.length cn) := by rw [cell_of_row _ _ _ _ _ _ D3.box]; rfl
  have hB : w.heap.size < w3.heap.size := heap_lt D3.box
  clear D3 hb3 HD HB0 HC0
  go_upto_region 27 with fail
  have p0a : ∀ o, (w3.alloc o).cell? ⟨w.heap.size, 0, none⟩ = some (.slice an M.length cn) := fun o => (World.cell?_alloc_past _ _ _ hB).trans p0
  obtain ⟨i0, hi, hz0, hz1, hz2⟩ := info_parts infoKnown
  have HMX := Lib.hid (show 0 + M.length ≤ maxLen from by unfold maxLen; omega)
  clear q0 q1 q2 q3 q4 q5 q6 q7
  have HS1 := Lib.hid (show ∀ o, (w3.alloc o).ownsRow 0 66 13 (.slice an M.length cn) M.length (bares M) from fun o => HR3.out.hn.alloc o)
  go_upto_region 28 with (at_builtin; refine wpList_append_row rfl (.tmp 135) (.tmp 137) 26 rfl w3.heap.size 66 i0 _ 13 112 Tryz.underlying26 hi hz0 hz1 hz2 rfl (by decide) (.slice (some ⟨w3.heap.size, 0, none⟩) 0 0) 0 [] rfl (owns_made (Nat.le_refl _)) (.slice an M.length cn) M.length (bares M) rfl (HS1.out _) (bares_one' M) HMX.out (by omega) (by simp) ?_; intro v1 w1 hown1 hg1; obtain ⟨g1, cap1, e1, _, _⟩ := owns_some hown1 (by omega); rw [Nat.zero_add] at e1; subst e1; have hcp := copyN HD3.out HR3.out hown1 hg1; have HCP := Lib.hid hcp; have cc0 := hcp.1; have ff0 := hcp.2.1; clear hown1 hg1 hcp)
  generalize hw5 : w1.setCell ⟨w.heap.size, 0, none⟩ (.slice (some ⟨g1, 0, none⟩) M.length cap1) = w5 at HCP
  have D5 := HCP.out.2.2.1
  have R5 := HCP.out.2.2.2.1
  have hg1 : w3.heap.size ≤ g1 := HCP.out.2.2.2.2 g1 rfl
  have hB5 : w.heap.size < w5.heap.size := heap_lt D5.box
  obtain ⟨ad, cd, hvd⟩ := owns_form R5.hd
  simp only at hvd
  subst hvd
  have p3 : w5.cell? ⟨w.heap.size, 3, none⟩ = some (.slice ad M.length cd) := by rw [cell_of_row _ _ _ _ _ _ D5.box]; rfl
  have p3a : ∀ o, (w5.alloc o).cell? ⟨w.heap.size, 3, none⟩ = some (.slice ad M.length cd) := fun o => (World.cell?_alloc_past _ _ _ hB5).trans p3
  obtain ⟨b0, bi, bz0, bz1, bz2⟩ := info_parts infoBool
  have HD5 := Lib.hid D5
  have HR5 := Lib.hid R5
  have HS5 := Lib.hid (show ∀ o, (w5.alloc o).ownsRow 0 4 1 (.slice ad M.length cd) M.length (deads M) from fun o => R5.hd.alloc o)
  clear D5 R5 HCP cc0 ff0 HS1 p0a p0 hw5 hB
  go_upto_region 29 with (at_builtin; refine wpList_append_row rfl (.tmp 140) (.tmp 142) 29 rfl w5.heap.size 4 b0 _ 1 1 Tryz.underlying29 bi bz0 bz1 bz2 rfl (by decide) (.slice (some ⟨w5.heap.size, 0, none⟩) 0 0) 0 [] rfl (owns_made (Nat.le_refl _)) (.slice ad M.length cd) M.length (deads M) rfl (HS5.out _) (deads_one M) HMX.out (by omega) (by simp) ?_; intro v6 w6 hown6 hg6; obtain ⟨g6, cap6, e6, _, _⟩ := owns_some hown6 (by omega); rw [Nat.zero_add] at e6; subst e6; have hcp := copyD HD5.out HR5.out hown6 hg6; have HCP := Lib.hid hcp; have cc0 := hcp.1; have ff0 := hcp.2.1; clear hown6 hg6 hcp)
  generalize hw7 : w6.setCell ⟨w.heap.size, 3, none⟩ (.slice (some ⟨g6, 0, none⟩) M.length cap6) = w7 at HCP
  have D7 := HCP.out.2.2.1
  have R7 := HCP.out.2.2.2.1
  have hg6 : w5.heap.size ≤ g6 := HCP.out.2.2.2.2 g6 rfl
  have HD7 := Lib.hid D7
  have HR7 := Lib.hid R7
  obtain ⟨q0, q1, q2, q3, q4, q5, q6, q7⟩ := chg_cells D7.chg
  rw [HT.out] at q2
  have s0 : w7.cell? ⟨w.heap.size, 0, none⟩ = some (.slice (some ⟨g1, 0, none⟩) M.length cap1) := by rw [cell_of_row _ _ _ _ _ _ D7.box]; rfl
  have s3 : w7.cell? ⟨w.heap.size, 3, none⟩ = some (.slice (some ⟨g6, 0, none⟩) M.length cap6) := by rw [cell_of_row _ _ _ _ _ _ D7.box]; rfl
  have hjl : j < M.length := (List.getElem?_eq_some_iff.1 HY.out).1
  have hgl : w.heap.size + 1 + 1 < w3.heap.size := heap_lt HD3.out.res
  clear D7 R7 HCP cc0 ff0 HS5 p3a p3 hw7 hB5 HD5 HR5
  go_upto_block 1 with fail
  go_cut [] from 147 to 198 (fun wx => DIn w ⟨.slice (some ⟨g1, 0, none⟩) M.length cap1, vl, vc, .slice (some ⟨g6, 0, none⟩) M.length cap6, va, vf⟩ c wx ∧ Rs (M.set j (setNd c y)) L ⟨.slice (some ⟨g1, 0, none⟩) M.length cap1, vl, vc, .slice (some ⟨g6, 0, none⟩) M.length cap6, va, vf⟩ wx)
  case first =>
    have nc := fun k u (hk : k < 13) (hu : y.bare[k]? = some u) => (show w7.cell? ⟨g1, j * 13 + k, none⟩ = some u from owns_cell HR7.out.hn ((bares_get M j k y HY.out hk).trans hu))
    have nf := fun k => (show w7.frozen? ⟨g1, j * 13 + k, none⟩ = false from owns_frozen HR7.out.hn _)
    have NC := Lib.hid nc
    have NF := Lib.hid nf
    clear nc nf HC hi hz0 hz1 hz2 bi bz0 bz1 bz2
    have hk := HKK.out
    have t4 : (c.kind == 4) = true := beq_iff_eq.2 hk
    have m3 := NC.out 3 _ (by omega) rfl
    have z3 := NF.out 3
    have HS := Lib.hid (show setNd c y = { y with mode := c.a % 4096 } by unfold setNd; rw [if_pos hk])
    clear hk
    go_wp2_with fail
    go_region_law (first
      | (go_simp; go_at_call 89; refine (bits_any c.a _).mono ?_; rintro e w1 ⟨rfl, rfl⟩))
    all_goals go_wp2_with fail
    all_goals go_meet
    all_goals (
      have hr := setN (n' := { y with mode := c.a % 4096 }) (k := 3) (u := .int .i64 (c.a % 4096)) HD7.out HR7.out rfl (by omega) HY.out (by omega) rfl rfl rfl rfl rfl
      rw [HS.out]
      first | exact hr | exact ⟨hr.1.drew, hr.2.drew⟩)
  case rest =>
    obtain ⟨D8, R8⟩ := hcut
    have HB8 := Lib.hid D8.box
    have hr8 := D8.res
    unfold nilsR at hr8
    have HR8 := Lib.hid hr8
    have HD8 := Lib.hid D8
    have HS8 := Lib.hid R8
    obtain ⟨al, cl, hvl⟩ := owns_form R8.hl
    obtain ⟨ac, cc, hvc⟩ := owns_form R8.hc
    obtain ⟨aa, ca, hva⟩ := owns_form R8.ha
    obtain ⟨af, cf, hvf⟩ := owns_form R8.hf
    simp only at hvl hvc hva hvf
    rw [List.length_set] at hvc hva
    subst hvl hvc hva hvf
    clear D8 R8 hr8 q0 q1 q2 q3 q4 q5 q6 q7 s0 s3 HC hi hz0 hz1 hz2 bi bz0 bz1 bz2
    go_wp2_with (first
      | fail
      | (refine wpList_load_row rfl 31 (.tmp 2) rfl w.heap.size rfl _ _ _ _ HB8.out Tryz.underlying31 rfl (by rw [sizeRef]; rfl) ?_)
      | (refine wpList_store_row rfl 31 (.tmp 4) (.tmp 198) rfl (w.heap.size + 1 + 1) _ rfl rfl _ _ HR8.out sizeRef rfl (one6 _ _ _ _ _ _ _ _ _ _ _ _ _ _ _ _ _ _) ?_))
    refine bodyPost_ret (v := .tuple #[.agg #[.slice (some ⟨g1, 0, none⟩) M.length cap1, .slice al L.length cl, .slice ac M.length cc, .slice (some ⟨g6, 0, none⟩) M.length cap6, .slice aa M.length ca, .slice af (devL (M.set j (setNd c y)) 0).length cf], .int .i64 0, .int .i64 0]) ?_ rfl ⟨⟨.slice (some ⟨g1, 0, none⟩) M.length cap1, .slice al L.length cl, .slice ac M.length cc, .slice (some ⟨g6, 0, none⟩) M.length cap6, .slice aa M.length ca, .slice af (devL (M.set j (setNd c y)) 0).length cf⟩, L, ?_, ?_, ?_, by omega, ?_⟩
    · exact results_do rfl (setRow_heap _ _ _ _ _ _ HR8.out) rfl
    · rw [HRs.out.2, HW.out]; rfl
    · rw [HRs.out.1]
      exact (but_setRow HR8.out _).rs HR8.out HS8.out
    · rw [HRs.out.1]
      exact R.set HY.out (setNd_ents c y) (setNd_over c y)
    · exact (but_setRow HR8.out _).below HD8.out.below (by omega) HD8.out.below.size
end Go.Proofs.YtknfhphhcnbndaaGreatDoor.V

namespace Go.Proofs.YtknfhphhcnbndaaGreatDoor.V
open Go.RowKit Go.BigFrame

set_option maxRecDepth 100000 in
set_option maxHeartbeats 8000000 in
theorem rdo_set5 (M : List Nd) (L : List It) (v : Rv) (c : Chg) (w : World) (H : Rs M L v w) (R : Rel M L) (hM : M.length ≤ 1000000) (hL : L.length ≤ 1000000) (hn : 0 < M.length) (hs : c.name.size ≤ 1000000) (hts : c.text.size ≤ 1000000) (hw : wrongM M c = 0) (hk : c.kind = 5)
    (j : Nat) (y : Nd) (ht : c.to = (j : Int)) (hy : M[j]? = some y) (h6 : c.kind = 6 → 0 ≤ c.a ∧ c.a ≤ 2) :
    Calls Tryz.prog 41 #[rvV v, chgV c] w (RDoP M L c w) := by
  have hk4 : 4 ≤ c.kind := by omega
  have h7 : c.kind ≠ 7 := by omega
  have hk8 : c.kind ≤ 8 := by omega
  have HKK := Lib.hid hk
  clear hk
  have HC := Lib.hid (fun w' hb => rwrong_any M L v c w' (H.keep hb) R hM hL hn hs hts)
  have HH := Lib.hid H
  have D0 := DIn.begin w v c
  have HRs := Lib.hid (do_set hw hk4 h7 ht hy)
  have HW := Lib.hid hw
  rw [hw] at HC
  clear hw
  obtain ⟨an, cn, hvn⟩ := owns_form H.hn
  obtain ⟨vn, vl, vc, vd, va, vf⟩ := v
  simp only at hvn
  subst hvn
  clear H
  have k0 : (c.kind == 0) = false := beq_eq_false_iff_ne.2 (by omega)
  have k1 : (c.kind == 1) = false := beq_eq_false_iff_ne.2 (by omega)
  have k2 : (c.kind == 2) = false := beq_eq_false_iff_ne.2 (by omega)
  have k3 : (c.kind == 3) = false := beq_eq_false_iff_ne.2 (by omega)
  have k7 : (c.kind == 7) = false := beq_eq_false_iff_ne.2 h7
  have k44 : decide (c.kind < 4) = false := decide_eq_false (by omega)
  have HK4 := Lib.hid hk4
  have HK8 := Lib.hid hk8
  have HK7 := Lib.hid h7
  have HT := Lib.hid ht
  have HY := Lib.hid hy
  have H6 := Lib.hid h6
  clear hk4 h7 hk8 ht hy h6
  unfold chgBox nilsR at D0
  unfold rvV chgV at HC
  unfold rvV chgV
  go_enter Tryz.func41, Tryz.ntmps41
  go_upto_region 1 with fail
  generalize hw2 : ((w.alloc _).alloc _).alloc _ = w2 at D0
  clear hw2
  have HD := Lib.hid D0
  have hb0 := D0.box
  have hc0 := D0.chg
  unfold chgBox at hc0
  have HB0 := Lib.hid hb0
  have HC0 := Lib.hid hc0
  clear hb0 hc0 D0
  go_wp2_with (first
    | fail
    | (refine wpList_load_row rfl 31 (.tmp 2) rfl w.heap.size rfl _ _ _ _ HB0.out Tryz.underlying31 rfl (by rw [sizeRef]; rfl) ?_)
    | (refine wpList_load_row rfl 89 (.tmp 3) rfl (w.heap.size + 1) rfl _ _ _ _ HC0.out Tryz.underlying89 rfl (by rw [sizeChg]; rfl) ?_))
  refine (HC.out _ HD.out.below).mono ?_
  rintro e2 w3 ⟨rfl, hb3⟩
  have D3 := HD.out.keep hb3
  have HD3 := Lib.hid D3
  have HR3 := Lib.hid (HH.out.keep D3.below)
  obtain ⟨q0, q1, q2, q3, q4, q5, q6, q7⟩ := chg_cells D3.chg
  have p0 : w3.cell? ⟨w.heap.size, 0, none⟩ = some (.slice an M.length cn) := by rw [cell_of_row _ _ _ _ _ _ D3.box]; rfl
  have hB : w.heap.size < w3.heap.size := heap_lt D3.box
  clear D3 hb3 HD HB0 HC0
  go_upto_region 27 with fail
  have p0a : ∀ o, (w3.alloc o).cell? ⟨w.heap.size, 0, none⟩ = some (.slice an M.length cn) := fun o => (World.cell?_alloc_past _ _ _ hB).trans p0
  obtain ⟨i0, hi, hz0, hz1, hz2⟩ := info_parts infoKnown
  have HMX := Lib.hid (show 0 + M.length ≤ maxLen from by unfold maxLen; omega)
  clear q0 q1 q2 q3 q4 q5 q6 q7
  have HS1 := Lib.hid (show ∀ o, (w3.alloc o).ownsRow 0 66 13 (.slice an M.length cn) M.length (bares M) from fun o => HR3.out.hn.alloc o)
  go_upto_region 28 with (at_builtin; refine wpList_append_row rfl (.tmp 135) (.tmp 137) 26 rfl w3.heap.size 66 i0 _ 13 112 Tryz.underlying26 hi hz0 hz1 hz2 rfl (by decide) (.slice (some ⟨w3.heap.size, 0, none⟩) 0 0) 0 [] rfl (owns_made (Nat.le_refl _)) (.slice an M.length cn) M.length (bares M) rfl (HS1.out _) (bares_one' M) HMX.out (by omega) (by simp) ?_; intro v1 w1 hown1 hg1; obtain ⟨g1, cap1, e1, _, _⟩ := owns_some hown1 (by omega); rw [Nat.zero_add] at e1; subst e1; have hcp := copyN HD3.out HR3.out hown1 hg1; have HCP := Lib.hid hcp; have cc0 := hcp.1; have ff0 := hcp.2.1; clear hown1 hg1 hcp)
  generalize hw5 : w1.setCell ⟨w.heap.size, 0, none⟩ (.slice (some ⟨g1, 0, none⟩) M.length cap1) = w5 at HCP
  have D5 := HCP.out.2.2.1
  have R5 := HCP.out.2.2.2.1
  have hg1 : w3.heap.size ≤ g1 := HCP.out.2.2.2.2 g1 rfl
  have hB5 : w.heap.size < w5.heap.size := heap_lt D5.box
  obtain ⟨ad, cd, hvd⟩ := owns_form R5.hd
  simp only at hvd
  subst hvd
  have p3 : w5.cell? ⟨w.heap.size, 3, none⟩ = some (.slice ad M.length cd) := by rw [cell_of_row _ _ _ _ _ _ D5.box]; rfl
  have p3a : ∀ o, (w5.alloc o).cell? ⟨w.heap.size, 3, none⟩ = some (.slice ad M.length cd) := fun o => (World.cell?_alloc_past _ _ _ hB5).trans p3
  obtain ⟨b0, bi, bz0, bz1, bz2⟩ := info_parts infoBool
  have HD5 := Lib.hid D5
  have HR5 := Lib.hid R5
  have HS5 := Lib.hid (show ∀ o, (w5.alloc o).ownsRow 0 4 1 (.slice ad M.length cd) M.length (deads M) from fun o => R5.hd.alloc o)
  clear D5 R5 HCP cc0 ff0 HS1 p0a p0 hw5 hB
  go_upto_region 29 with (at_builtin; refine wpList_append_row rfl (.tmp 140) (.tmp 142) 29 rfl w5.heap.size 4 b0 _ 1 1 Tryz.underlying29 bi bz0 bz1 bz2 rfl (by decide) (.slice (some ⟨w5.heap.size, 0, none⟩) 0 0) 0 [] rfl (owns_made (Nat.le_refl _)) (.slice ad M.length cd) M.length (deads M) rfl (HS5.out _) (deads_one M) HMX.out (by omega) (by simp) ?_; intro v6 w6 hown6 hg6; obtain ⟨g6, cap6, e6, _, _⟩ := owns_some hown6 (by omega); rw [Nat.zero_add] at e6; subst e6; have hcp := copyD HD5.out HR5.out hown6 hg6; have HCP := Lib.hid hcp; have cc0 := hcp.1; have ff0 := hcp.2.1; clear hown6 hg6 hcp)
  generalize hw7 : w6.setCell ⟨w.heap.size, 3, none⟩ (.slice (some ⟨g6, 0, none⟩) M.length cap6) = w7 at HCP
  have D7 := HCP.out.2.2.1
  have R7 := HCP.out.2.2.2.1
  have hg6 : w5.heap.size ≤ g6 := HCP.out.2.2.2.2 g6 rfl
  have HD7 := Lib.hid D7
  have HR7 := Lib.hid R7
  obtain ⟨q0, q1, q2, q3, q4, q5, q6, q7⟩ := chg_cells D7.chg
  rw [HT.out] at q2
  have s0 : w7.cell? ⟨w.heap.size, 0, none⟩ = some (.slice (some ⟨g1, 0, none⟩) M.length cap1) := by rw [cell_of_row _ _ _ _ _ _ D7.box]; rfl
  have s3 : w7.cell? ⟨w.heap.size, 3, none⟩ = some (.slice (some ⟨g6, 0, none⟩) M.length cap6) := by rw [cell_of_row _ _ _ _ _ _ D7.box]; rfl
  have hjl : j < M.length := (List.getElem?_eq_some_iff.1 HY.out).1
  have hgl : w.heap.size + 1 + 1 < w3.heap.size := heap_lt HD3.out.res
  clear D7 R7 HCP cc0 ff0 HS5 p3a p3 hw7 hB5 HD5 HR5
  go_upto_block 1 with fail
  go_cut [] from 147 to 198 (fun wx => DIn w ⟨.slice (some ⟨g1, 0, none⟩) M.length cap1, vl, vc, .slice (some ⟨g6, 0, none⟩) M.length cap6, va, vf⟩ c wx ∧ Rs (M.set j (setNd c y)) L ⟨.slice (some ⟨g1, 0, none⟩) M.length cap1, vl, vc, .slice (some ⟨g6, 0, none⟩) M.length cap6, va, vf⟩ wx)
  case first =>
    have nc := fun k u (hk : k < 13) (hu : y.bare[k]? = some u) => (show w7.cell? ⟨g1, j * 13 + k, none⟩ = some u from owns_cell HR7.out.hn ((bares_get M j k y HY.out hk).trans hu))
    have nf := fun k => (show w7.frozen? ⟨g1, j * 13 + k, none⟩ = false from owns_frozen HR7.out.hn _)
    have NC := Lib.hid nc
    have NF := Lib.hid nf
    clear nc nf HC hi hz0 hz1 hz2 bi bz0 bz1 bz2
    have hk := HKK.out
    have t4 : (c.kind == 4) = false := beq_eq_false_iff_ne.2 (by omega)
    have t5 : (c.kind == 5) = true := beq_iff_eq.2 hk
    have m4 := NC.out 4 _ (by omega) rfl
    have z4 := NF.out 4
    have m5 := NC.out 5 _ (by omega) rfl
    have z5 := NF.out 5
    have HS := Lib.hid (show setNd c y = { y with uid := maxI c.a 0, gid := maxI c.b 0 } by unfold setNd; rw [if_neg (by omega), if_pos hk])
    clear hk
    have q5' : w7.cell? ⟨w.heap.size + 1, 5, none⟩ = some (.int .i64 c.a) := q5
    obtain ⟨ma, hma⟩ : ∃ ma, max c.a 0 = ma := ⟨_, rfl⟩
    obtain ⟨mb, hmb⟩ : ∃ mb, max c.b 0 = mb := ⟨_, rfl⟩
    have HMa := Lib.hid hma
    have HMb := Lib.hid hmb
    clear hma hmb
    have e1 := setN (n' := { y with uid := ma }) (k := 4) (u := .int .i64 ma) HD7.out HR7.out rfl (by omega) HY.out (by omega) rfl rfl rfl rfl rfl
    have hy1 : (M.set j { y with uid := ma })[j]? = some { y with uid := ma } := by rw [List.getElem?_set, if_pos rfl, if_pos hjl]
    have e2 := setN (n' := { y with uid := ma, gid := mb }) (k := 5) (u := .int .i64 mb) e1.1 e1.2 (by rw [List.length_set]) (by omega) hy1 (by omega) rfl rfl rfl rfl rfl
    rw [List.set_set] at e2
    have HE2 := Lib.hid e2
    have HW8 := Lib.hid (heap_lt e1.1.chg)
    obtain ⟨u0, u1, u2, u3, u4, u5, u6, u7⟩ := chg_cells e1.1.chg
    rw [HT.out] at u2
    have v0 : (w7.setCell ⟨g1, j * 13 + 4, none⟩ (.int .i64 ma)).cell? ⟨w.heap.size, 0, none⟩ = some (.slice (some ⟨g1, 0, none⟩) M.length cap1) := by rw [cell_of_row _ _ _ _ _ _ e1.1.box]; rfl
    clear e1 e2 hy1
    go_upto_region 34 with fail
    rw [HMa.out]
    go_wp2_with fail
    rw [HMb.out]
    go_meet
    rw [HS.out, show maxI c.a 0 = ma by rw [maxI_max]; exact HMa.out, show maxI c.b 0 = mb by rw [maxI_max]; exact HMb.out]
    first | exact HE2.out | exact ⟨HE2.out.1.drew, HE2.out.2.drew⟩
  case rest =>
    obtain ⟨D8, R8⟩ := hcut
    have HB8 := Lib.hid D8.box
    have hr8 := D8.res
    unfold nilsR at hr8
    have HR8 := Lib.hid hr8
    have HD8 := Lib.hid D8
    have HS8 := Lib.hid R8
    obtain ⟨al, cl, hvl⟩ := owns_form R8.hl
    obtain ⟨ac, cc, hvc⟩ := owns_form R8.hc
    obtain ⟨aa, ca, hva⟩ := owns_form R8.ha
    obtain ⟨af, cf, hvf⟩ := owns_form R8.hf
    simp only at hvl hvc hva hvf
    rw [List.length_set] at hvc hva
    subst hvl hvc hva hvf
    clear D8 R8 hr8 q0 q1 q2 q3 q4 q5 q6 q7 s0 s3 HC hi hz0 hz1 hz2 bi bz0 bz1 bz2
    go_wp2_with (first
      | fail
      | (refine wpList_load_row rfl 31 (.tmp 2) rfl w.heap.size rfl _ _ _ _ HB8.out Tryz.underlying31 rfl (by rw [sizeRef]; rfl) ?_)
      | (refine wpList_store_row rfl 31 (.tmp 4) (.tmp 198) rfl (w.heap.size + 1 + 1) _ rfl rfl _ _ HR8.out sizeRef rfl (one6 _ _ _ _ _ _ _ _ _ _ _ _ _ _ _ _ _ _) ?_))
    refine bodyPost_ret (v := .tuple #[.agg #[.slice (some ⟨g1, 0, none⟩) M.length cap1, .slice al L.length cl, .slice ac M.length cc, .slice (some ⟨g6, 0, none⟩) M.length cap6, .slice aa M.length ca, .slice af (devL (M.set j (setNd c y)) 0).length cf], .int .i64 0, .int .i64 0]) ?_ rfl ⟨⟨.slice (some ⟨g1, 0, none⟩) M.length cap1, .slice al L.length cl, .slice ac M.length cc, .slice (some ⟨g6, 0, none⟩) M.length cap6, .slice aa M.length ca, .slice af (devL (M.set j (setNd c y)) 0).length cf⟩, L, ?_, ?_, ?_, by omega, ?_⟩
    · exact results_do rfl (setRow_heap _ _ _ _ _ _ HR8.out) rfl
    · rw [HRs.out.2, HW.out]; rfl
    · rw [HRs.out.1]
      exact (but_setRow HR8.out _).rs HR8.out HS8.out
    · rw [HRs.out.1]
      exact R.set HY.out (setNd_ents c y) (setNd_over c y)
    · exact (but_setRow HR8.out _).below HD8.out.below (by omega) HD8.out.below.size
end Go.Proofs.YtknfhphhcnbndaaGreatDoor.V

namespace Go.Proofs.YtknfhphhcnbndaaGreatDoor.V
open Go.RowKit Go.BigFrame

set_option maxRecDepth 100000 in
set_option maxHeartbeats 8000000 in
theorem rdo_set6 (M : List Nd) (L : List It) (v : Rv) (c : Chg) (w : World) (H : Rs M L v w) (R : Rel M L) (hM : M.length ≤ 1000000) (hL : L.length ≤ 1000000) (hn : 0 < M.length) (hs : c.name.size ≤ 1000000) (hts : c.text.size ≤ 1000000) (hw : wrongM M c = 0) (hk : c.kind = 6)
    (j : Nat) (y : Nd) (ht : c.to = (j : Int)) (hy : M[j]? = some y) (h6 : c.kind = 6 → 0 ≤ c.a ∧ c.a ≤ 2) :
    Calls Tryz.prog 41 #[rvV v, chgV c] w (RDoP M L c w) := by
  have hk4 : 4 ≤ c.kind := by omega
  have h7 : c.kind ≠ 7 := by omega
  have hk8 : c.kind ≤ 8 := by omega
  have HKK := Lib.hid hk
  clear hk
  have HC := Lib.hid (fun w' hb => rwrong_any M L v c w' (H.keep hb) R hM hL hn hs hts)
  have HH := Lib.hid H
  have D0 := DIn.begin w v c
  have HRs := Lib.hid (do_set hw hk4 h7 ht hy)
  have HW := Lib.hid hw
  rw [hw] at HC
  clear hw
  obtain ⟨an, cn, hvn⟩ := owns_form H.hn
  obtain ⟨vn, vl, vc, vd, va, vf⟩ := v
  simp only at hvn
  subst hvn
  clear H
  have k0 : (c.kind == 0) = false := beq_eq_false_iff_ne.2 (by omega)
  have k1 : (c.kind == 1) = false := beq_eq_false_iff_ne.2 (by omega)
  have k2 : (c.kind == 2) = false := beq_eq_false_iff_ne.2 (by omega)
  have k3 : (c.kind == 3) = false := beq_eq_false_iff_ne.2 (by omega)
  have k7 : (c.kind == 7) = false := beq_eq_false_iff_ne.2 h7
  have k44 : decide (c.kind < 4) = false := decide_eq_false (by omega)
  have HK4 := Lib.hid hk4
  have HK8 := Lib.hid hk8
  have HK7 := Lib.hid h7
  have HT := Lib.hid ht
  have HY := Lib.hid hy
  have H6 := Lib.hid h6
  clear hk4 h7 hk8 ht hy h6
  unfold chgBox nilsR at D0
  unfold rvV chgV at HC
  unfold rvV chgV
  go_enter Tryz.func41, Tryz.ntmps41
  go_upto_region 1 with fail
  generalize hw2 : ((w.alloc _).alloc _).alloc _ = w2 at D0
  clear hw2
  have HD := Lib.hid D0
  have hb0 := D0.box
  have hc0 := D0.chg
  unfold chgBox at hc0
  have HB0 := Lib.hid hb0
  have HC0 := Lib.hid hc0
  clear hb0 hc0 D0
  go_wp2_with (first
    | fail
    | (refine wpList_load_row rfl 31 (.tmp 2) rfl w.heap.size rfl _ _ _ _ HB0.out Tryz.underlying31 rfl (by rw [sizeRef]; rfl) ?_)
    | (refine wpList_load_row rfl 89 (.tmp 3) rfl (w.heap.size + 1) rfl _ _ _ _ HC0.out Tryz.underlying89 rfl (by rw [sizeChg]; rfl) ?_))
  refine (HC.out _ HD.out.below).mono ?_
  rintro e2 w3 ⟨rfl, hb3⟩
  have D3 := HD.out.keep hb3
  have HD3 := Lib.hid D3
  have HR3 := Lib.hid (HH.out.keep D3.below)
  obtain ⟨q0, q1, q2, q3, q4, q5, q6, q7⟩ := chg_cells D3.chg
  have p0 : w3.cell? ⟨w.heap.size, 0, none⟩ = some (.slice an M.length cn) := by rw [cell_of_row _ _ _ _ _ _ D3.box]; rfl
  have hB : w.heap.size < w3.heap.size := heap_lt D3.box
  clear D3 hb3 HD HB0 HC0
  go_upto_region 27 with fail
  have p0a : ∀ o, (w3.alloc o).cell? ⟨w.heap.size, 0, none⟩ = some (.slice an M.length cn) := fun o => (World.cell?_alloc_past _ _ _ hB).trans p0
  obtain ⟨i0, hi, hz0, hz1, hz2⟩ := info_parts infoKnown
  have HMX := Lib.hid (show 0 + M.length ≤ maxLen from by unfold maxLen; omega)
  clear q0 q1 q2 q3 q4 q5 q6 q7
  have HS1 := Lib.hid (show ∀ o, (w3.alloc o).ownsRow 0 66 13 (.slice an M.length cn) M.length (bares M) from fun o => HR3.out.hn.alloc o)
  go_upto_region 28 with (at_builtin; refine wpList_append_row rfl (.tmp 135) (.tmp 137) 26 rfl w3.heap.size 66 i0 _ 13 112 Tryz.underlying26 hi hz0 hz1 hz2 rfl (by decide) (.slice (some ⟨w3.heap.size, 0, none⟩) 0 0) 0 [] rfl (owns_made (Nat.le_refl _)) (.slice an M.length cn) M.length (bares M) rfl (HS1.out _) (bares_one' M) HMX.out (by omega) (by simp) ?_; intro v1 w1 hown1 hg1; obtain ⟨g1, cap1, e1, _, _⟩ := owns_some hown1 (by omega); rw [Nat.zero_add] at e1; subst e1; have hcp := copyN HD3.out HR3.out hown1 hg1; have HCP := Lib.hid hcp; have cc0 := hcp.1; have ff0 := hcp.2.1; clear hown1 hg1 hcp)
  generalize hw5 : w1.setCell ⟨w.heap.size, 0, none⟩ (.slice (some ⟨g1, 0, none⟩) M.length cap1) = w5 at HCP
  have D5 := HCP.out.2.2.1
  have R5 := HCP.out.2.2.2.1
  have hg1 : w3.heap.size ≤ g1 := HCP.out.2.2.2.2 g1 rfl
  have hB5 : w.heap.size < w5.heap.size := heap_lt D5.box
  obtain ⟨ad, cd, hvd⟩ := owns_form R5.hd
  simp only at hvd
  subst hvd
  have p3 : w5.cell? ⟨w.heap.size, 3, none⟩ = some (.slice ad M.length cd) := by rw [cell_of_row _ _ _ _ _ _ D5.box]; rfl
  have p3a : ∀ o, (w5.alloc o).cell? ⟨w.heap.size, 3, none⟩ = some (.slice ad M.length cd) := fun o => (World.cell?_alloc_past _ _ _ hB5).trans p3
  obtain ⟨b0, bi, bz0, bz1, bz2⟩ := info_parts infoBool
  have HD5 := Lib.hid D5
  have HR5 := Lib.hid R5
  have HS5 := Lib.hid (show ∀ o, (w5.alloc o).ownsRow 0 4 1 (.slice ad M.length cd) M.length (deads M) from fun o => R5.hd.alloc o)
  clear D5 R5 HCP cc0 ff0 HS1 p0a p0 hw5 hB
  go_upto_region 29 with (at_builtin; refine wpList_append_row rfl (.tmp 140) (.tmp 142) 29 rfl w5.heap.size 4 b0 _ 1 1 Tryz.underlying29 bi bz0 bz1 bz2 rfl (by decide) (.slice (some ⟨w5.heap.size, 0, none⟩) 0 0) 0 [] rfl (owns_made (Nat.le_refl _)) (.slice ad M.length cd) M.length (deads M) rfl (HS5.out _) (deads_one M) HMX.out (by omega) (by simp) ?_; intro v6 w6 hown6 hg6; obtain ⟨g6, cap6, e6, _, _⟩ := owns_some hown6 (by omega); rw [Nat.zero_add] at e6; subst e6; have hcp := copyD HD5.out HR5.out hown6 hg6; have HCP := Lib.hid hcp; have cc0 := hcp.1; have ff0 := hcp.2.1; clear hown6 hg6 hcp)
  generalize hw7 : w6.setCell ⟨w.heap.size, 3, none⟩ (.slice (some ⟨g6, 0, none⟩) M.length cap6) = w7 at HCP
  have D7 := HCP.out.2.2.1
  have R7 := HCP.out.2.2.2.1
  have hg6 : w5.heap.size ≤ g6 := HCP.out.2.2.2.2 g6 rfl
  have HD7 := Lib.hid D7
  have HR7 := Lib.hid R7
  obtain ⟨q0, q1, q2, q3, q4, q5, q6, q7⟩ := chg_cells D7.chg
  rw [HT.out] at q2
  have s0 : w7.cell? ⟨w.heap.size, 0, none⟩ = some (.slice (some ⟨g1, 0, none⟩) M.length cap1) := by rw [cell_of_row _ _ _ _ _ _ D7.box]; rfl
  have s3 : w7.cell? ⟨w.heap.size, 3, none⟩ = some (.slice (some ⟨g6, 0, none⟩) M.length cap6) := by rw [cell_of_row _ _ _ _ _ _ D7.box]; rfl
  have hjl : j < M.length := (List.getElem?_eq_some_iff.1 HY.out).1
  have hgl : w.heap.size + 1 + 1 < w3.heap.size := heap_lt HD3.out.res
  clear D7 R7 HCP cc0 ff0 HS5 p3a p3 hw7 hB5 HD5 HR5
  go_upto_block 1 with fail
  go_cut [] from 147 to 198 (fun wx => DIn w ⟨.slice (some ⟨g1, 0, none⟩) M.length cap1, vl, vc, .slice (some ⟨g6, 0, none⟩) M.length cap6, va, vf⟩ c wx ∧ Rs (M.set j (setNd c y)) L ⟨.slice (some ⟨g1, 0, none⟩) M.length cap1, vl, vc, .slice (some ⟨g6, 0, none⟩) M.length cap6, va, vf⟩ wx)
  case first =>
    have nc := fun k u (hk : k < 13) (hu : y.bare[k]? = some u) => (show w7.cell? ⟨g1, j * 13 + k, none⟩ = some u from owns_cell HR7.out.hn ((bares_get M j k y HY.out hk).trans hu))
    have nf := fun k => (show w7.frozen? ⟨g1, j * 13 + k, none⟩ = false from owns_frozen HR7.out.hn _)
    have NC := Lib.hid nc
    have NF := Lib.hid nf
    clear nc nf HC hi hz0 hz1 hz2 bi bz0 bz1 bz2
    have hk := HKK.out
    have t4 : (c.kind == 4) = false := beq_eq_false_iff_ne.2 (by omega)
    have t5 : (c.kind == 5) = false := beq_eq_false_iff_ne.2 (by omega)
    have t6 : (c.kind == 6) = true := beq_iff_eq.2 hk
    obtain ⟨ha0, ha1⟩ := H6.out hk
    have ha : c.a = 0 ∨ c.a = 1 ∨ c.a = 2 := by omega
    rcases ha with ha | ha | ha
    · have HS := Lib.hid (show setNd c y = { y with t0 := c.n } by unfold setNd; rw [if_neg (by omega), if_neg (by omega), if_pos hk, if_pos ha])
      have m9 := NC.out 9 _ (by omega) rfl
      have z9 := NF.out 9
      have e2 := Lib.hid (setN (n' := { y with t0 := c.n }) (k := 9) (u := .int .i64 c.n) HD7.out HR7.out rfl (by omega) HY.out (by omega) rfl rfl rfl rfl rfl)
      rw [ha] at q5
      obtain ⟨x0, x1, x2, x3, x4, k5', x6, k7'⟩ := chg_cells e2.out.1.chg
      rw [ha] at k5'
      rw [HT.out] at x2
      have k2' := x2
      have k0' : _ = some (Value.slice (some ⟨g1, 0, none⟩) M.length cap1) := (cell_of_row _ _ 0 _ _ _ e2.out.1.box).trans rfl
      clear x0 x1 x2 x3 x4 x6
      clear hk ha ha0 ha1
      go_wp2_with fail
      go_region_held3 (fun w' => w'.cell? ⟨w.heap.size, 0, none⟩ = some (.slice (some ⟨g1, 0, none⟩) M.length cap1) ∧ w'.cell? ⟨w.heap.size + 1, 2, none⟩ = some (.int .i64 (j : Int)) ∧ w'.cell? ⟨w.heap.size + 1, 5, none⟩ = some (.int .i64 0) ∧ w'.cell? ⟨w.heap.size + 1, 7, none⟩ = some (.int .i64 c.n)) (first | exact ⟨s0, q2, q5, q7⟩ | exact ⟨k0', k2', k5', k7'⟩) (fail)
      all_goals go_wp2_with fail
      all_goals go_meet
      all_goals rw [HS.out]
      all_goals first | exact e2.out | exact ⟨e2.out.1.drew, e2.out.2.drew⟩
    · have HS := Lib.hid (show setNd c y = { y with t1 := c.n } by unfold setNd; rw [if_neg (by omega), if_neg (by omega), if_pos hk, if_neg (by omega), if_pos ha])
      have m9 := NC.out 10 _ (by omega) rfl
      have z9 := NF.out 10
      have e2 := Lib.hid (setN (n' := { y with t1 := c.n }) (k := 10) (u := .int .i64 c.n) HD7.out HR7.out rfl (by omega) HY.out (by omega) rfl rfl rfl rfl rfl)
      rw [ha] at q5
      obtain ⟨x0, x1, x2, x3, x4, k5', x6, k7'⟩ := chg_cells e2.out.1.chg
      rw [ha] at k5'
      rw [HT.out] at x2
      have k2' := x2
      have k0' : _ = some (Value.slice (some ⟨g1, 0, none⟩) M.length cap1) := (cell_of_row _ _ 0 _ _ _ e2.out.1.box).trans rfl
      clear x0 x1 x2 x3 x4 x6
      clear hk ha ha0 ha1
      go_wp2_with fail
      go_region_held3 (fun w' => w'.cell? ⟨w.heap.size, 0, none⟩ = some (.slice (some ⟨g1, 0, none⟩) M.length cap1) ∧ w'.cell? ⟨w.heap.size + 1, 2, none⟩ = some (.int .i64 (j : Int)) ∧ w'.cell? ⟨w.heap.size + 1, 5, none⟩ = some (.int .i64 1) ∧ w'.cell? ⟨w.heap.size + 1, 7, none⟩ = some (.int .i64 c.n)) (first | exact ⟨s0, q2, q5, q7⟩ | exact ⟨k0', k2', k5', k7'⟩) (fail)
      all_goals go_wp2_with fail
      all_goals go_meet
      all_goals rw [HS.out]
      all_goals first | exact e2.out | exact ⟨e2.out.1.drew, e2.out.2.drew⟩
    · have HS := Lib.hid (show setNd c y = { y with t2 := c.n } by unfold setNd; rw [if_neg (by omega), if_neg (by omega), if_pos hk, if_neg (by omega), if_neg (by omega)])
      have m9 := NC.out 11 _ (by omega) rfl
      have z9 := NF.out 11
      have e2 := Lib.hid (setN (n' := { y with t2 := c.n }) (k := 11) (u := .int .i64 c.n) HD7.out HR7.out rfl (by omega) HY.out (by omega) rfl rfl rfl rfl rfl)
      rw [ha] at q5
      obtain ⟨x0, x1, x2, x3, x4, k5', x6, k7'⟩ := chg_cells e2.out.1.chg
      rw [ha] at k5'
      rw [HT.out] at x2
      have k2' := x2
      have k0' : _ = some (Value.slice (some ⟨g1, 0, none⟩) M.length cap1) := (cell_of_row _ _ 0 _ _ _ e2.out.1.box).trans rfl
      clear x0 x1 x2 x3 x4 x6
      clear hk ha ha0 ha1
      go_wp2_with fail
      go_region_held3 (fun w' => w'.cell? ⟨w.heap.size, 0, none⟩ = some (.slice (some ⟨g1, 0, none⟩) M.length cap1) ∧ w'.cell? ⟨w.heap.size + 1, 2, none⟩ = some (.int .i64 (j : Int)) ∧ w'.cell? ⟨w.heap.size + 1, 5, none⟩ = some (.int .i64 2) ∧ w'.cell? ⟨w.heap.size + 1, 7, none⟩ = some (.int .i64 c.n)) (first | exact ⟨s0, q2, q5, q7⟩ | exact ⟨k0', k2', k5', k7'⟩) (fail)
      all_goals go_wp2_with fail
      all_goals go_meet
      all_goals rw [HS.out]
      all_goals first | exact e2.out | exact ⟨e2.out.1.drew, e2.out.2.drew⟩
  case rest =>
    obtain ⟨D8, R8⟩ := hcut
    have HB8 := Lib.hid D8.box
    have hr8 := D8.res
    unfold nilsR at hr8
    have HR8 := Lib.hid hr8
    have HD8 := Lib.hid D8
    have HS8 := Lib.hid R8
    obtain ⟨al, cl, hvl⟩ := owns_form R8.hl
    obtain ⟨ac, cc, hvc⟩ := owns_form R8.hc
    obtain ⟨aa, ca, hva⟩ := owns_form R8.ha
    obtain ⟨af, cf, hvf⟩ := owns_form R8.hf
    simp only at hvl hvc hva hvf
    rw [List.length_set] at hvc hva
    subst hvl hvc hva hvf
    clear D8 R8 hr8 q0 q1 q2 q3 q4 q5 q6 q7 s0 s3 HC hi hz0 hz1 hz2 bi bz0 bz1 bz2
    go_wp2_with (first
      | fail
      | (refine wpList_load_row rfl 31 (.tmp 2) rfl w.heap.size rfl _ _ _ _ HB8.out Tryz.underlying31 rfl (by rw [sizeRef]; rfl) ?_)
      | (refine wpList_store_row rfl 31 (.tmp 4) (.tmp 198) rfl (w.heap.size + 1 + 1) _ rfl rfl _ _ HR8.out sizeRef rfl (one6 _ _ _ _ _ _ _ _ _ _ _ _ _ _ _ _ _ _) ?_))
    refine bodyPost_ret (v := .tuple #[.agg #[.slice (some ⟨g1, 0, none⟩) M.length cap1, .slice al L.length cl, .slice ac M.length cc, .slice (some ⟨g6, 0, none⟩) M.length cap6, .slice aa M.length ca, .slice af (devL (M.set j (setNd c y)) 0).length cf], .int .i64 0, .int .i64 0]) ?_ rfl ⟨⟨.slice (some ⟨g1, 0, none⟩) M.length cap1, .slice al L.length cl, .slice ac M.length cc, .slice (some ⟨g6, 0, none⟩) M.length cap6, .slice aa M.length ca, .slice af (devL (M.set j (setNd c y)) 0).length cf⟩, L, ?_, ?_, ?_, by omega, ?_⟩
    · exact results_do rfl (setRow_heap _ _ _ _ _ _ HR8.out) rfl
    · rw [HRs.out.2, HW.out]; rfl
    · rw [HRs.out.1]
      exact (but_setRow HR8.out _).rs HR8.out HS8.out
    · rw [HRs.out.1]
      exact R.set HY.out (setNd_ents c y) (setNd_over c y)
    · exact (but_setRow HR8.out _).below HD8.out.below (by omega) HD8.out.below.size
end Go.Proofs.YtknfhphhcnbndaaGreatDoor.V

namespace Go.Proofs.YtknfhphhcnbndaaGreatDoor.V
open Go.RowKit Go.BigFrame

set_option maxRecDepth 100000 in
set_option maxHeartbeats 8000000 in
theorem rdo_set8 (M : List Nd) (L : List It) (v : Rv) (c : Chg) (w : World) (H : Rs M L v w) (R : Rel M L) (hM : M.length ≤ 1000000) (hL : L.length ≤ 1000000) (hn : 0 < M.length) (hs : c.name.size ≤ 1000000) (hts : c.text.size ≤ 1000000) (hw : wrongM M c = 0) (hk : c.kind = 8)
    (j : Nat) (y : Nd) (ht : c.to = (j : Int)) (hy : M[j]? = some y) (h6 : c.kind = 6 → 0 ≤ c.a ∧ c.a ≤ 2) :
    Calls Tryz.prog 41 #[rvV v, chgV c] w (RDoP M L c w) := by
  have hk4 : 4 ≤ c.kind := by omega
  have h7 : c.kind ≠ 7 := by omega
  have hk8 : c.kind ≤ 8 := by omega
  have HKK := Lib.hid hk
  clear hk
  have HC := Lib.hid (fun w' hb => rwrong_any M L v c w' (H.keep hb) R hM hL hn hs hts)
  have HH := Lib.hid H
  have D0 := DIn.begin w v c
  have HRs := Lib.hid (do_set hw hk4 h7 ht hy)
  have HW := Lib.hid hw
  rw [hw] at HC
  clear hw
  obtain ⟨an, cn, hvn⟩ := owns_form H.hn
  obtain ⟨vn, vl, vc, vd, va, vf⟩ := v
  simp only at hvn
  subst hvn
  clear H
  have k0 : (c.kind == 0) = false := beq_eq_false_iff_ne.2 (by omega)
  have k1 : (c.kind == 1) = false := beq_eq_false_iff_ne.2 (by omega)
  have k2 : (c.kind == 2) = false := beq_eq_false_iff_ne.2 (by omega)
  have k3 : (c.kind == 3) = false := beq_eq_false_iff_ne.2 (by omega)
  have k7 : (c.kind == 7) = false := beq_eq_false_iff_ne.2 h7
  have k44 : decide (c.kind < 4) = false := decide_eq_false (by omega)
  have HK4 := Lib.hid hk4
  have HK8 := Lib.hid hk8
  have HK7 := Lib.hid h7
  have HT := Lib.hid ht
  have HY := Lib.hid hy
  have H6 := Lib.hid h6
  clear hk4 h7 hk8 ht hy h6
  unfold chgBox nilsR at D0
  unfold rvV chgV at HC
  unfold rvV chgV
  go_enter Tryz.func41, Tryz.ntmps41
  go_upto_region 1 with fail
  generalize hw2 : ((w.alloc _).alloc _).alloc _ = w2 at D0
  clear hw2
  have HD := Lib.hid D0
  have hb0 := D0.box
  have hc0 := D0.chg
  unfold chgBox at hc0
  have HB0 := Lib.hid hb0
  have HC0 := Lib.hid hc0
  clear hb0 hc0 D0
  go_wp2_with (first
    | fail
    | (refine wpList_load_row rfl 31 (.tmp 2) rfl w.heap.size rfl _ _ _ _ HB0.out Tryz.underlying31 rfl (by rw [sizeRef]; rfl) ?_)
    | (refine wpList_load_row rfl 89 (.tmp 3) rfl (w.heap.size + 1) rfl _ _ _ _ HC0.out Tryz.underlying89 rfl (by rw [sizeChg]; rfl) ?_))
  refine (HC.out _ HD.out.below).mono ?_
  rintro e2 w3 ⟨rfl, hb3⟩
  have D3 := HD.out.keep hb3
  have HD3 := Lib.hid D3
  have HR3 := Lib.hid (HH.out.keep D3.below)
  obtain ⟨q0, q1, q2, q3, q4, q5, q6, q7⟩ := chg_cells D3.chg
  have p0 : w3.cell? ⟨w.heap.size, 0, none⟩ = some (.slice an M.length cn) := by rw [cell_of_row _ _ _ _ _ _ D3.box]; rfl
  have hB : w.heap.size < w3.heap.size := heap_lt D3.box
  clear D3 hb3 HD HB0 HC0
  go_upto_region 27 with fail
  have p0a : ∀ o, (w3.alloc o).cell? ⟨w.heap.size, 0, none⟩ = some (.slice an M.length cn) := fun o => (World.cell?_alloc_past _ _ _ hB).trans p0
  obtain ⟨i0, hi, hz0, hz1, hz2⟩ := info_parts infoKnown
  have HMX := Lib.hid (show 0 + M.length ≤ maxLen from by unfold maxLen; omega)
  clear q0 q1 q2 q3 q4 q5 q6 q7
  have HS1 := Lib.hid (show ∀ o, (w3.alloc o).ownsRow 0 66 13 (.slice an M.length cn) M.length (bares M) from fun o => HR3.out.hn.alloc o)
  go_upto_region 28 with (at_builtin; refine wpList_append_row rfl (.tmp 135) (.tmp 137) 26 rfl w3.heap.size 66 i0 _ 13 112 Tryz.underlying26 hi hz0 hz1 hz2 rfl (by decide) (.slice (some ⟨w3.heap.size, 0, none⟩) 0 0) 0 [] rfl (owns_made (Nat.le_refl _)) (.slice an M.length cn) M.length (bares M) rfl (HS1.out _) (bares_one' M) HMX.out (by omega) (by simp) ?_; intro v1 w1 hown1 hg1; obtain ⟨g1, cap1, e1, _, _⟩ := owns_some hown1 (by omega); rw [Nat.zero_add] at e1; subst e1; have hcp := copyN HD3.out HR3.out hown1 hg1; have HCP := Lib.hid hcp; have cc0 := hcp.1; have ff0 := hcp.2.1; clear hown1 hg1 hcp)
  generalize hw5 : w1.setCell ⟨w.heap.size, 0, none⟩ (.slice (some ⟨g1, 0, none⟩) M.length cap1) = w5 at HCP
  have D5 := HCP.out.2.2.1
  have R5 := HCP.out.2.2.2.1
  have hg1 : w3.heap.size ≤ g1 := HCP.out.2.2.2.2 g1 rfl
  have hB5 : w.heap.size < w5.heap.size := heap_lt D5.box
  have hB52 : w.heap.size + 1 + 1 < w5.heap.size := heap_lt D5.res
  obtain ⟨ad, cd, hvd⟩ := owns_form R5.hd
  simp only at hvd
  subst hvd
  have p3 : w5.cell? ⟨w.heap.size, 3, none⟩ = some (.slice ad M.length cd) := by rw [cell_of_row _ _ _ _ _ _ D5.box]; rfl
  have p3a : ∀ o, (w5.alloc o).cell? ⟨w.heap.size, 3, none⟩ = some (.slice ad M.length cd) := fun o => (World.cell?_alloc_past _ _ _ hB5).trans p3
  obtain ⟨b0, bi, bz0, bz1, bz2⟩ := info_parts infoBool
  have HD5 := Lib.hid D5
  have HR5 := Lib.hid R5
  have HS5 := Lib.hid (show ∀ o, (w5.alloc o).ownsRow 0 4 1 (.slice ad M.length cd) M.length (deads M) from fun o => R5.hd.alloc o)
  clear D5 R5 HCP cc0 ff0 HS1 p0a p0 hw5 hB
  go_upto_region 29 with (at_builtin; refine wpList_append_row rfl (.tmp 140) (.tmp 142) 29 rfl w5.heap.size 4 b0 _ 1 1 Tryz.underlying29 bi bz0 bz1 bz2 rfl (by decide) (.slice (some ⟨w5.heap.size, 0, none⟩) 0 0) 0 [] rfl (owns_made (Nat.le_refl _)) (.slice ad M.length cd) M.length (deads M) rfl (HS5.out _) (deads_one M) HMX.out (by omega) (by simp) ?_; intro v6 w6 hown6 hg6; obtain ⟨g6, cap6, e6, _, _⟩ := owns_some hown6 (by omega); rw [Nat.zero_add] at e6; subst e6; have hcp := copyD HD5.out HR5.out hown6 hg6; have HCP := Lib.hid hcp; have cc0 := hcp.1; have ff0 := hcp.2.1; clear hown6 hg6 hcp)
  generalize hw7 : w6.setCell ⟨w.heap.size, 3, none⟩ (.slice (some ⟨g6, 0, none⟩) M.length cap6) = w7 at HCP
  have D7 := HCP.out.2.2.1
  have R7 := HCP.out.2.2.2.1
  have hg6 : w5.heap.size ≤ g6 := HCP.out.2.2.2.2 g6 rfl
  have HD7 := Lib.hid D7
  have HR7 := Lib.hid R7
  obtain ⟨q0, q1, q2, q3, q4, q5, q6, q7⟩ := chg_cells D7.chg
  rw [HT.out] at q2
  have s0 : w7.cell? ⟨w.heap.size, 0, none⟩ = some (.slice (some ⟨g1, 0, none⟩) M.length cap1) := by rw [cell_of_row _ _ _ _ _ _ D7.box]; rfl
  have s3 : w7.cell? ⟨w.heap.size, 3, none⟩ = some (.slice (some ⟨g6, 0, none⟩) M.length cap6) := by rw [cell_of_row _ _ _ _ _ _ D7.box]; rfl
  have hjl : j < M.length := (List.getElem?_eq_some_iff.1 HY.out).1
  have hgl : w.heap.size + 1 + 1 < w3.heap.size := heap_lt HD3.out.res
  clear D7 R7 HCP cc0 ff0 HS5 p3a p3 hw7 hB5 HD5 HR5
  go_upto_block 1 with fail
  go_cut [] from 147 to 198 (fun wx => DIn w ⟨.slice (some ⟨g1, 0, none⟩) M.length cap1, vl, vc, .slice (some ⟨g6, 0, none⟩) M.length cap6, va, vf⟩ c wx ∧ Rs (M.set j (setNd c y)) L ⟨.slice (some ⟨g1, 0, none⟩) M.length cap1, vl, vc, .slice (some ⟨g6, 0, none⟩) M.length cap6, va, vf⟩ wx)
  case first =>
    have nc := fun k u (hk : k < 13) (hu : y.bare[k]? = some u) => (show w7.cell? ⟨g1, j * 13 + k, none⟩ = some u from owns_cell HR7.out.hn ((bares_get M j k y HY.out hk).trans hu))
    have nf := fun k => (show w7.frozen? ⟨g1, j * 13 + k, none⟩ = false from owns_frozen HR7.out.hn _)
    have NC := Lib.hid nc
    have NF := Lib.hid nf
    clear nc nf HC hi hz0 hz1 hz2 bi bz0 bz1 bz2
    have hk := HKK.out
    have t4 : (c.kind == 4) = false := beq_eq_false_iff_ne.2 (by omega)
    have t5 : (c.kind == 5) = false := beq_eq_false_iff_ne.2 (by omega)
    have t6 : (c.kind == 6) = false := beq_eq_false_iff_ne.2 (by omega)
    have t8 : (c.kind == 8) = true := beq_iff_eq.2 hk
    have HS := Lib.hid (show setNd c y = { y with dead := true } by unfold setNd; rw [if_neg (by omega), if_neg (by omega), if_neg (by omega)])
    have m9 : w7.cell? ⟨g6, j, none⟩ = some (.bool y.dead) := owns_cell HR7.out.hd (by unfold deads; rw [List.getElem?_map, HY.out]; rfl)
    have z9 : w7.frozen? ⟨g6, j, none⟩ = false := owns_frozen HR7.out.hd _
    have hg6' : w.heap.size + 1 + 1 < g6 := by omega
    have e2 := Lib.hid (setD HD7.out HR7.out rfl hg6' HY.out)
    clear hk
    go_wp2_with fail
    go_meet
    rw [HS.out]
    exact e2.out
  case rest =>
    obtain ⟨D8, R8⟩ := hcut
    have HB8 := Lib.hid D8.box
    have hr8 := D8.res
    unfold nilsR at hr8
    have HR8 := Lib.hid hr8
    have HD8 := Lib.hid D8
    have HS8 := Lib.hid R8
    obtain ⟨al, cl, hvl⟩ := owns_form R8.hl
    obtain ⟨ac, cc, hvc⟩ := owns_form R8.hc
    obtain ⟨aa, ca, hva⟩ := owns_form R8.ha
    obtain ⟨af, cf, hvf⟩ := owns_form R8.hf
    simp only at hvl hvc hva hvf
    rw [List.length_set] at hvc hva
    subst hvl hvc hva hvf
    clear D8 R8 hr8 q0 q1 q2 q3 q4 q5 q6 q7 s0 s3 HC hi hz0 hz1 hz2 bi bz0 bz1 bz2
    go_wp2_with (first
      | fail
      | (refine wpList_load_row rfl 31 (.tmp 2) rfl w.heap.size rfl _ _ _ _ HB8.out Tryz.underlying31 rfl (by rw [sizeRef]; rfl) ?_)
      | (refine wpList_store_row rfl 31 (.tmp 4) (.tmp 198) rfl (w.heap.size + 1 + 1) _ rfl rfl _ _ HR8.out sizeRef rfl (one6 _ _ _ _ _ _ _ _ _ _ _ _ _ _ _ _ _ _) ?_))
    refine bodyPost_ret (v := .tuple #[.agg #[.slice (some ⟨g1, 0, none⟩) M.length cap1, .slice al L.length cl, .slice ac M.length cc, .slice (some ⟨g6, 0, none⟩) M.length cap6, .slice aa M.length ca, .slice af (devL (M.set j (setNd c y)) 0).length cf], .int .i64 0, .int .i64 0]) ?_ rfl ⟨⟨.slice (some ⟨g1, 0, none⟩) M.length cap1, .slice al L.length cl, .slice ac M.length cc, .slice (some ⟨g6, 0, none⟩) M.length cap6, .slice aa M.length ca, .slice af (devL (M.set j (setNd c y)) 0).length cf⟩, L, ?_, ?_, ?_, by omega, ?_⟩
    · exact results_do rfl (setRow_heap _ _ _ _ _ _ HR8.out) rfl
    · rw [HRs.out.2, HW.out]; rfl
    · rw [HRs.out.1]
      exact (but_setRow HR8.out _).rs HR8.out HS8.out
    · rw [HRs.out.1]
      exact R.set HY.out (setNd_ents c y) (setNd_over c y)
    · exact (but_setRow HR8.out _).below HD8.out.below (by omega) HD8.out.below.size
end Go.Proofs.YtknfhphhcnbndaaGreatDoor.V
