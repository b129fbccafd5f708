/-
  What the reference's Do makes of a name more for a node that there is.
  Conditions: each fact's own.
-/
import Derived.Test.YtfhagjnlliafiaaGreatDoorKVRefDo3
import Derived.Test.YtfhagjnlliafiaaGreatDoorKVRefDo8
import Derived.Test.YtfhagjnlliafiaaGreatDoorKVRefDo7
import Derived.Test.YtfhagjnlliafiaaGreatDoorKVNames
import Derived.ProofKit
import Derived.SizedLaws
import Derived.OpenShut
import Derived.ShutString
import Derived.Deep.Slices
import Derived.Deep.Fields
set_option linter.unusedVariables false
set_option linter.unusedSimpArgs false
set_option maxHeartbeats 8000000
set_option maxRecDepth 100000
open List renaming setIfInBounds_toArray → lt, set_cons_zero → l0, set_cons_succ → ls
open Go.Act renaming put → u
namespace Go.Proofs.YtfhagjnlliafiaaGreatDoor.V
open Go.RowKit Go.BigFrame
theorem do_share {M : List Nd} {c : Chg} {i j : Nat} (hw : wrongM M c = 0) (hk : c.kind = 2) (ht : c.at_ = (i : Int)) (hj : c.to = (j : Int)) : ∃ k, doM M c = (M.modify i (addEnt c.name (j : Int))).modify k moreLinks ∧ doR M c = 0 := by
  unfold doM doR carryM
  rw [if_pos hw, if_pos hw, if_neg (by omega), if_neg (by omega), if_pos hk, ht, hj, Int.toNat_natCast]
  exact ⟨_, rfl, rfl⟩
theorem rs_rown {M : List Nd} {L : List It} {v : Rv} {w : World} (H : ROwn w v M.length (bares M) L.length (itCells L) M.length (covs M 0) M.length (deads M) M.length (ups M) (devL M 0).length (ints (devL M 0))) : Rs M L v w := ⟨H.1, H.2.1, H.2.2.1, H.2.2.2.1, H.2.2.2.2.1, H.2.2.2.2.2⟩
theorem rdo_share (M : List Nd) (L : List It) (v : Rv) (c : Chg) (w : World) (H : Rs M L v w) (R : Rel M L) (hM : M.length ≤ 1000000) (hL : L.length ≤ 1000000) (hn : 0 < M.length) (hs : c.name.size ≤ 1000000) (hts : c.text.size ≤ 1000000) (hw : wrongM M c = 0) (hk : c.kind = 2)
    (i : Nat) (x : Nd) (ht : c.at_ = (i : Int)) (hx : M[i]? = some x) (j : Nat) (hj : c.to = (j : Int)) (hjl : j < M.length) :
    Calls Tryz.prog 19 #[rvV v, chgV c] w (RDoP M L c w) := by
  have HKK := Lib.hid hk
  obtain ⟨kk, hkk⟩ := do_share hw hk ht hj
  have HRs := Lib.hid hkk
  clear hkk
  have HJ := Lib.hid hj
  clear hj
  have HC := Lib.hid (fun w' hb => rwrong_any M L v c w' (H.keep hb) R hM hL hn hs hts)
  have HH := Lib.hid H
  have D0 := DIn.begin w v c
  have HW := Lib.hid hw
  rw [hw] at HC
  clear hw
  obtain ⟨gn, cn, al, cl, gc, cc, ad, cd, aa, ca, af, cf, rfl⟩ := H.at_ hn
  clear H
  have HT := Lib.hid ht
  have HX := Lib.hid hx
  have hil : i < M.length := (List.getElem?_eq_some_iff.1 hx).1
  clear ht hx hk
  unfold chgBox nilsR at D0
  unfold rvV chgV at HC
  unfold rvV chgV
  go_enter Tryz.func19, Tryz.ntmps19
  go_upto_region 1 with fail
  generalize hw2 : ((w.alloc _).alloc _).alloc _ = w2 at D0
  clear hw2
  have HD := Lib.hid D0
  have hb0 := D0.box
  have hc0 := D0.chg
  unfold chgBox at hc0
  have HB0 := Lib.hid hb0
  have HC0 := Lib.hid hc0
  clear hb0 hc0 D0
  go_wp2_with (first
    | fail
    | (refine wpList_load_row rfl 36 (.tmp 2) rfl w.heap.size rfl _ _ _ _ HB0.out Tryz.underlying36 rfl (by rw [sizeRef]; rfl) ?_)
    | (refine wpList_load_row rfl 56 (.tmp 3) rfl (w.heap.size + 1) rfl _ _ _ _ HC0.out Tryz.underlying56 rfl (by rw [sizeChg]; rfl) ?_))
  refine (HC.out _ HD.out.below).mono ?_
  rintro e2 w3 ⟨rfl, hb3⟩
  have D3 := HD.out.keep hb3
  have HD3 := Lib.hid D3
  have HR3 := Lib.hid (HH.out.keep D3.below)
  obtain ⟨q0, q1, q2, q3, q4, q5, q6, q7⟩ := chg_cells D3.chg
  have bx : ∀ j u, (#[.slice (some ⟨gn, 0, none⟩) M.length cn, .slice al L.length cl, .slice (some ⟨gc, 0, none⟩) M.length cc, .slice ad M.length cd, .slice aa M.length ca, .slice af (devL M 0).length cf] : Array Value)[j]? = some u → w3.cell? ⟨w.heap.size, j, none⟩ = some u := fun j u hu => by rw [cell_of_row _ _ _ _ _ _ D3.box]; exact hu
  have p0 := bx 0 _ rfl
  have p1 := bx 1 _ rfl
  have p2 := bx 2 _ rfl
  have p3 := bx 3 _ rfl
  have p4 := bx 4 _ rfl
  have p5 := bx 5 _ rfl
  have n0 : w3.cell? ⟨gn, i * 13, none⟩ = some (.int .i64 x.dev) := (HH.out.keep D3.below).node_cell (k := 0) HX.out (by omega) rfl
  rw [HT.out] at q1
  rw [HKK.out] at q0
  clear D3 hb3 HD HB0 HC0 bx
  go_upto_block 0 with fail
  rw [HJ.out] at q2
  go_cut [8] from 22 to 114 (fun a8 wx => a8 = .int .i64 (j : Int) ∧ ∃ v3, DIn w v3 c wx ∧ ROwn wx v3 M.length (bares M) L.length (itCells L) M.length (covs M 0) M.length (deads M) M.length (ups M) (devL M 0).length (ints (devL M 0)))
  case first =>
    go_wp2_with fail
    go_meet
    exact ⟨rfl, ⟨.slice (some ⟨gn, 0, none⟩) M.length cn, .slice al L.length cl, .slice (some ⟨gc, 0, none⟩) M.length cc, .slice ad M.length cd, .slice aa M.length ca, .slice af (devL M 0).length cf⟩, HD3.out, rown_rs HR3.out⟩
  case rest =>
    obtain ⟨rfl, v3, D, O⟩ := hcut
    obtain ⟨an3, cn3, al3, cl3, ac3, cc3, ad3, cd3, aa3, ca3, af3, cf3, rfl⟩ := rown_forms O
    obtain ⟨q0, q1, q2, q3, q4, q5, q6, q7⟩ := chg_cells D.chg
    rw [HT.out] at q1
    rw [HKK.out] at q0
    have p1 : wc.cell? ⟨w.heap.size, 1, none⟩ = some (.slice al3 L.length cl3) := by rw [cell_of_row _ _ _ _ _ _ D.box]; rfl
    have HD := Lib.hid D
    have HO := Lib.hid O
    clear D O HC HD3 HR3
    go_upto_region 23 with fail
    have HS0 := Lib.hid (show ∀ w', Below wc.heap.size wc w' → Below wc.heap.size wc w' ∧ w'.cell? ⟨w.heap.size, 1, none⟩ = some (.slice al3 L.length cl3) ∧ w'.cell? ⟨w.heap.size + 1, 1, none⟩ = some (.int .i64 (i : Int)) ∧ w'.cell? ⟨w.heap.size + 1, 3, none⟩ = some (.string c.name) from fun w' hb => ⟨hb, cell_keep p1 hb, cell_keep q1 hb, cell_keep q3 hb⟩)
    go_cut [] from 116 to 130 (fun wx => Lng w wc.drew ⟨.slice an3 M.length cn3, .slice al3 L.length cl3, .slice ac3 M.length cc3, .slice ad3 M.length cd3, .slice aa3 M.length ca3, .slice af3 (devL M 0).length cf3⟩ c (L.length + 1) (itCells L ++ itemC (i : Int) c.name (j : Int)) wx)
    case first =>
      obtain ⟨i0, hi, hz0, hz1, hz2⟩ := info_parts infoItem
      have HMX := Lib.hid (show 0 + L.length ≤ maxLen from by unfold maxLen; omega)
      have HMY := Lib.hid (show 0 + L.length + 1 ≤ maxLen from by unfold maxLen; omega)
      clear p1 q0 q1 q2 q3 q4 q5 q6 q7
      refine Till.region (z := 14) (S := fun w' => Below wc.heap.size wc w' ∧ w'.cell? ⟨w.heap.size, 1, none⟩ = some (.slice al3 L.length cl3) ∧ w'.cell? ⟨w.heap.size + 1, 1, none⟩ = some (.int .i64 (i : Int)) ∧ w'.cell? ⟨w.heap.size + 1, 3, none⟩ = some (.string c.name)) (by kernel_rfl) (HS0.out _ (Below.refl _ _).drew) (fun hHeld => ?_)
      have HDr := Lib.hid HD.out.drew
      have HOr := Lib.hid (show wc.drew.ownsRow 0 94 3 (.slice al3 L.length cl3) L.length (itCells L) from owns_keep HO.out.2.1 (Below.refl _ _).drew)
      have HS := Lib.hid (show ∀ w', Below wc.drew.heap.size wc.drew w' → Below wc.heap.size wc w' ∧ w'.cell? ⟨w.heap.size, 1, none⟩ = some (.slice al3 L.length cl3) ∧ w'.cell? ⟨w.heap.size + 1, 1, none⟩ = some (.int .i64 (i : Int)) ∧ w'.cell? ⟨w.heap.size + 1, 3, none⟩ = some (.string c.name) from fun w' hb => HS0.out _ ((Below.refl _ _).drew.trans hb))
      generalize hwr : wc.drew = wr at HDr HOr HS hHeld ⊢
      have HWR := Lib.hid hwr
      clear hwr
      have HL1 := Lib.hid (show ∀ o, (wr.alloc o).ownsRow 0 94 3 (.slice al3 L.length cl3) L.length (itCells L) from fun o => HOr.out.alloc o)
      have HL2 := Lib.hid (show ∀ o o', ((wr.alloc o).alloc o').ownsRow 0 94 3 (.slice al3 L.length cl3) L.length (itCells L) from fun o o' => (HOr.out.alloc o).alloc o')
      refine Till.tz 1 (.pointer (some ⟨w.heap.size, 1, none⟩)) rfl (fun w0 hS0 => ?_) ?_
      · go_simp
      try simp only [u, lt, l0, ls]
      refine Till.tz 2 (.slice al3 L.length cl3) rfl (fun w0 hS0 => ?_) ?_
      · have c := hS0.2.1; go_simp
      try simp only [u, lt, l0, ls]
      refine Till.tz 4 (.pointer (some ⟨(w.heap.size + 1), 1, none⟩)) rfl (fun w0 hS0 => ?_) ?_
      · go_simp
      try simp only [u, lt, l0, ls]
      refine Till.tz 5 (.int .i64 (i : Int)) rfl (fun w0 hS0 => ?_) ?_
      · have c := hS0.2.2.1; go_simp
      try simp only [u, lt, l0, ls]
      refine Till.tz 6 (.pointer (some ⟨(w.heap.size + 1), 3, none⟩)) rfl (fun w0 hS0 => ?_) ?_
      · go_simp
      try simp only [u, lt, l0, ls]
      refine Till.tz 7 (.string c.name) rfl (fun w0 hS0 => ?_) ?_
      · have c := hS0.2.2.2; go_simp
      try simp only [u, lt, l0, ls]
      refine Till.tz 8 (.int .i64 (j : Int)) rfl (fun w0 hS0 => ?_) ?_
      · go_simp
      try simp only [u, lt, l0, ls]
      refine Till.tz 9 (.agg #[.string c.name, .int .i64 (j : Int)]) rfl (fun w0 hS0 => ?_) ?_
      · go_simp
      try simp only [u, lt, l0, ls]
      refine Till.tz 10 (.agg #[.int .i64 (i : Int), .string c.name, .int .i64 (j : Int)]) rfl (fun w0 hS0 => ?_) ?_
      · go_simp
      try simp only [u, lt, l0, ls]
      refine Till.two (i := 0) (j := 11) (by kernel_rfl) rfl rfl (fun K hK => ?_) (fun K hK => ?_)
      · go_simp
        refine hK.out _ _ (fun _ => HS.out _ ((Below.refl _ _).alloc (Nat.le_refl _) _)) ?_
        clear hK K
        try simp only [u, lt, l0, ls]
        refine Till.two (i := 3) (j := 11) (by kernel_rfl) rfl rfl (fun K hK => ?_) (fun K hK => ?_)
        · refine step_append_row rfl (.tmp 116) (.tmp 118) 32 rfl wr.heap.size 94 i0 _ 3 32 Tryz.underlying32 hi hz0 hz1 hz2 rfl (by decide) (.slice (some ⟨wr.heap.size, 0, none⟩) 0 0) 0 [] (by simp [Act.eval]) (owns_made (Nat.le_refl _)) (.slice al3 L.length cl3) L.length (itCells L) (by simp [Act.eval]) (HL1.out _) (its_one L) HMX.out (by omega) (by simp <;> omega) ?_
          intro v1 w1 hown1 hg1
          refine hK.out _ _ (fun _ => HS.out _ (grown_below ((Below.refl _ _).alloc (Nat.le_refl _) _) hg1 (own_ge (owns_made (e := 94) (size := 3) (Nat.le_refl wr.heap.size))) (by simp))) ?_
          clear hK K
          have hB1 : Below wr.heap.size wr w1 := grown_below ((Below.refl _ _).alloc (Nat.le_refl _) _) hg1 (own_ge (owns_made (e := 94) (size := 3) (Nat.le_refl wr.heap.size))) (by simp)
          have hHeld1 := HS.out _ hB1
          try simp only [u, lt, l0, ls]
          refine Till.tn 11 rfl fun K hK => ?_
          go_simp
          refine hK.out _ _ (fun _ => HS.out _ (hB1.alloc hB1.size _)) ?_
          clear hK K
          try simp only [u, lt, l0, ls]
          refine Till.tn 12 rfl fun K hK => ?_
          refine step_append_row rfl (.tmp 119) (.tmp 127) 32 rfl wr.heap.size 94 i0 _ 3 32 Tryz.underlying32 hi hz0 hz1 hz2 rfl (by decide) v1 (0 + L.length) ([] ++ itCells L) (by simp [Act.eval]) (hown1.alloc _) (.slice (some ⟨w1.heap.size, 0, none⟩) 1 1) 1 (itemC (i : Int) c.name (j : Int)) (by simp [Act.eval]) (owns_single 3 rfl) (itemC_one _ _ _) HMY.out (by omega) (by have := hg1.size; simp at this ⊢; omega) ?_
          intro v2 w2 hown2 hg2
          obtain ⟨g2, cap2, rfl, _, _⟩ := owns_some hown2 (by omega)
          have R := lng_a HDr.out hg1 hown1 hown2 hg2
          have q2 := R.1
          have q3 := R.2.1
          have HR2 := Lib.hid R.2.2
          clear R
          refine hK.out _ _ (fun _ => HS.out _ (grown_below (hB1.alloc hB1.size _) hg2 (own_ge hown1) (by have := hB1.size; simp; omega))) ?_
          clear hK K
          have hHeld2 := HS.out _ (grown_below (hB1.alloc hB1.size _) hg2 (own_ge hown1) (by have := hB1.size; simp; omega))
          try simp only [u, lt, l0, ls]
          refine Till.tz 13 (.pointer (some ⟨w.heap.size, 1, none⟩)) rfl (fun w0 hS0 => ?_) ?_
          · go_simp
          try simp only [u, lt, l0, ls]
          refine Till.tn 14 rfl fun K hK => ?_
          go_simp
          refine hK.out _ _ (fun q => absurd rfl q) ?_
          clear hK K
          try simp only [u, lt, l0, ls]
          refine Till.done (by kernel_rfl) ?_
          go_wp2_with fail
          go_meet
          rw [HWR.out]; exact HR2.out
        · go_simp
          refine hK.out _ _ (fun _ => HS.out _ (((Below.refl _ _).alloc (Nat.le_refl _) _).alloc (by simp) _)) ?_
          clear hK K
          try simp only [u, lt, l0, ls]
          refine Till.tn 3 rfl fun K hK => ?_
          refine step_append_row rfl (.tmp 116) (.tmp 118) 32 rfl wr.heap.size 94 i0 _ 3 32 Tryz.underlying32 hi hz0 hz1 hz2 rfl (by decide) (.slice (some ⟨wr.heap.size, 0, none⟩) 0 0) 0 [] (by simp [Act.eval]) ((owns_made (Nat.le_refl _)).alloc _) (.slice al3 L.length cl3) L.length (itCells L) (by simp [Act.eval]) (HL2.out _ _) (its_one L) HMX.out (by omega) (by simp <;> omega) ?_
          intro v1 w1 hown1 hg1
          have hd1 : ∀ j, (Value.slice (some ⟨wr.heap.size, 0, none⟩) 0 0).ownBlock = some j → wr.heap.size ≤ j := fun j => one_ge (Nat.le_refl _)
          have hB1 : Below wr.heap.size wr w1 := grown_below (((Below.refl _ _).alloc (Nat.le_refl _) _).alloc (by simp) _) hg1 hd1 (by simp; omega)
          have hHeld1 := HS.out _ hB1
          refine hK.out _ _ (fun _ => hHeld1) ?_
          clear hK K
          try simp only [u, lt, l0, ls]
          refine Till.tn 12 rfl fun K hK => ?_
          refine step_append_row rfl (.tmp 119) (.tmp 127) 32 rfl wr.heap.size 94 i0 _ 3 32 Tryz.underlying32 hi hz0 hz1 hz2 rfl (by decide) v1 (0 + L.length) ([] ++ itCells L) (by simp [Act.eval]) (hown1) (.slice (some ⟨wr.heap.size + 1, 0, none⟩) 1 1) 1 (itemC (i : Int) c.name (j : Int)) (by simp [Act.eval]) (row_b (xs := itemC (i : Int) c.name (j : Int)) rfl hg1 (by rw [own_some]; simp)) (itemC_one _ _ _) HMY.out (by omega) (by have := hg1.size; simp at this ⊢; omega) ?_
          intro v2 w2 hown2 hg2
          obtain ⟨g2, cap2, rfl, _, _⟩ := owns_some hown2 (by omega)
          have R := lng_b HDr.out hg1 hd1 hown1 hown2 hg2
          have q2 := R.1
          have q3 := R.2.1
          have HR2 := Lib.hid R.2.2
          clear R
          refine hK.out _ _ (fun _ => HS.out _ (grown_below hB1 hg2 (own_ge hown1) (by have := hB1.size; omega))) ?_
          clear hK K
          have hHeld2 := HS.out _ (grown_below hB1 hg2 (own_ge hown1) (by have := hB1.size; omega))
          try simp only [u, lt, l0, ls]
          refine Till.tz 13 (.pointer (some ⟨w.heap.size, 1, none⟩)) rfl (fun w0 hS0 => ?_) ?_
          · go_simp
          try simp only [u, lt, l0, ls]
          refine Till.tn 14 rfl fun K hK => ?_
          go_simp
          refine hK.out _ _ (fun q => absurd rfl q) ?_
          clear hK K
          try simp only [u, lt, l0, ls]
          refine Till.done (by kernel_rfl) ?_
          go_wp2_with fail
          go_meet
          rw [HWR.out]; exact HR2.out
      · go_simp
        refine hK.out _ _ (fun _ => HS.out _ ((Below.refl _ _).alloc (Nat.le_refl _) _)) ?_
        clear hK K
        try simp only [u, lt, l0, ls]
        refine Till.tn 0 rfl fun K hK => ?_
        go_simp
        refine hK.out _ _ (fun _ => HS.out _ (((Below.refl _ _).alloc (Nat.le_refl _) _).alloc (by simp) _)) ?_
        clear hK K
        try simp only [u, lt, l0, ls]
        refine Till.tn 3 rfl fun K hK => ?_
        refine step_append_row rfl (.tmp 116) (.tmp 118) 32 rfl wr.heap.size 94 i0 _ 3 32 Tryz.underlying32 hi hz0 hz1 hz2 rfl (by decide) (.slice (some ⟨wr.heap.size + 1, 0, none⟩) 0 0) 0 [] (by simp [Act.eval]) (own_c wr _) (.slice al3 L.length cl3) L.length (itCells L) (by simp [Act.eval]) (HL2.out _ _) (its_one L) HMX.out (by omega) (by simp <;> omega) ?_
        intro v1 w1 hown1 hg1
        have hd1 : ∀ j, (Value.slice (some ⟨wr.heap.size + 1, 0, none⟩) 0 0).ownBlock = some j → wr.heap.size ≤ j := fun j => one_ge (by omega)
        have hB1 : Below wr.heap.size wr w1 := grown_below (((Below.refl _ _).alloc (Nat.le_refl _) _).alloc (by simp) _) hg1 hd1 (by simp; omega)
        have hHeld1 := HS.out _ hB1
        refine hK.out _ _ (fun _ => hHeld1) ?_
        clear hK K
        try simp only [u, lt, l0, ls]
        refine Till.tn 12 rfl fun K hK => ?_
        refine step_append_row rfl (.tmp 119) (.tmp 127) 32 rfl wr.heap.size 94 i0 _ 3 32 Tryz.underlying32 hi hz0 hz1 hz2 rfl (by decide) v1 (0 + L.length) ([] ++ itCells L) (by simp [Act.eval]) (hown1) (.slice (some ⟨wr.heap.size, 0, none⟩) 1 1) 1 (itemC (i : Int) c.name (j : Int)) (by simp [Act.eval]) (row_c (xs := itemC (i : Int) c.name (j : Int)) rfl hg1 (by rw [own_some]; simp)) (itemC_one _ _ _) HMY.out (by omega) (by have := hg1.size; simp at this ⊢; omega) ?_
        intro v2 w2 hown2 hg2
        obtain ⟨g2, cap2, rfl, _, _⟩ := owns_some hown2 (by omega)
        have R := lng_b HDr.out hg1 hd1 hown1 hown2 hg2
        have q2 := R.1
        have q3 := R.2.1
        have HR2 := Lib.hid R.2.2
        clear R
        refine hK.out _ _ (fun _ => HS.out _ (grown_below hB1 hg2 (own_ge hown1) (by have := hB1.size; omega))) ?_
        clear hK K
        have hHeld2 := HS.out _ (grown_below hB1 hg2 (own_ge hown1) (by have := hB1.size; omega))
        try simp only [u, lt, l0, ls]
        refine Till.tz 13 (.pointer (some ⟨w.heap.size, 1, none⟩)) rfl (fun w0 hS0 => ?_) ?_
        · go_simp
        try simp only [u, lt, l0, ls]
        refine Till.tn 14 rfl fun K hK => ?_
        go_simp
        refine hK.out _ _ (fun q => absurd rfl q) ?_
        clear hK K
        try simp only [u, lt, l0, ls]
        refine Till.done (by kernel_rfl) ?_
        go_wp2_with fail
        go_meet
        rw [HWR.out]; exact HR2.out
    case rest =>
      obtain ⟨g4, cap4, D4, O4, B4⟩ := hcut
      obtain ⟨u0, u1, u2, u3, u4, u5, u6, u7⟩ := chg_cells D4.chg
      rw [HKK.out] at u0
      have HB8 := Lib.hid D4.box
      have hr8 := D4.res
      unfold nilsR at hr8
      have HR8 := Lib.hid hr8
      have HD8 := Lib.hid D4
      have O' := HO.out
      have hbx := HD.out.drew.box
      have HRO := Lib.hid (rown_mk ⟨.slice an3 M.length cn3, .slice (some ⟨g4, 0, none⟩) (L.length + 1) cap4, .slice ac3 M.length cc3, .slice ad3 M.length cd3, .slice aa3 M.length ca3, .slice af3 (devL M 0).length cf3⟩
        (B4.owns (owns_keep O'.1 (Below.refl _ _).drew) hbx (by decide)) (mL := (L ++ [⟨(i : Int), c.name, (j : Int)⟩] : List It).length) (xL := itCells (L ++ [⟨(i : Int), c.name, (j : Int)⟩])) (by rw [List.length_append, itCells_more]; exact O4) (B4.owns (owns_keep O'.2.2.1 (Below.refl _ _).drew) hbx (by decide)) (B4.owns (owns_keep O'.2.2.2.1 (Below.refl _ _).drew) hbx (by decide)) (B4.owns (owns_keep O'.2.2.2.2.1 (Below.refl _ _).drew) hbx (by decide)) (B4.owns (owns_keep O'.2.2.2.2.2 (Below.refl _ _).drew) hbx (by decide)))
      clear D4 O4 B4 hr8 O' hbx p1 q0 q1 q2 q3 q4 q5 q6 q7 HS0
      go_wp2_with (first
        | fail
        | (refine wpList_load_row rfl 36 (.tmp 2) rfl w.heap.size rfl _ _ _ _ HB8.out Tryz.underlying36 rfl (by rw [sizeRef]; rfl) ?_)
        | (refine wpList_store_row rfl 36 (.tmp 4) (.tmp 133) rfl (w.heap.size + 1 + 1) _ rfl rfl _ _ HR8.out sizeRef rfl (one6 _ _ _ _ _ _ _ _ _ _ _ _ _ _ _ _ _ _) ?_))
      have hrs := rs_rown HRO.out
      refine bodyPost_ret (v := .tuple #[.agg #[.slice an3 M.length cn3, .slice (some ⟨g4, 0, none⟩) (L.length + 1) cap4, .slice ac3 M.length cc3, .slice ad3 M.length cd3, .slice aa3 M.length ca3, .slice af3 (devL M 0).length cf3], .int .i64 0, .int .i64 0]) ?_ rfl ⟨⟨.slice an3 M.length cn3, .slice (some ⟨g4, 0, none⟩) (L.length + 1) cap4, .slice ac3 M.length cc3, .slice ad3 M.length cd3, .slice aa3 M.length ca3, .slice af3 (devL M 0).length cf3⟩, L ++ [⟨(i : Int), c.name, (j : Int)⟩], ?_, ?_, ?_, by simp, ?_⟩
      · exact results_do rfl (setRow_heap _ _ _ _ _ _ HR8.out) rfl
      · rw [HRs.out.2, HW.out]; rfl
      · rw [HRs.out.1]
        exact (but_setRow HR8.out _).rs HR8.out (hrs.seen seen_shared)
      · rw [HRs.out.1]
        exact R.shared hil (by omega) (by omega)
      · exact (but_setRow HR8.out _).below HD8.out.below (by omega) HD8.out.below.size
end Go.Proofs.YtfhagjnlliafiaaGreatDoor.V
namespace Go.Proofs.YtfhagjnlliafiaaGreatDoor.V
open Go.RowKit
theorem rdo_any (M : List Nd) (L : List It) (v : Rv) (c : Chg) (w : World) (H : Rs M L v w) (R : Rel M L) (hI : DevInv M) (hM : M.length ≤ 1000000) (hL : L.length ≤ 1000000) (hn : 0 < M.length) (hs : c.name.size ≤ 1000000) (hts : c.text.size ≤ 1000000) (hc : c.n ≤ 9223372036854775807) :
    Calls Tryz.prog 19 #[rvV v, chgV c] w (RDoP M L c w) := by
  by_cases hw : wrongM M c = 0
  · rcases wrong_cases hw with ⟨x, hx, hk, hl⟩ | ⟨k2, x, y, hx, hy, _⟩ | ⟨k7, hl, y, hy⟩ | ⟨hk, y, hy⟩
    · obtain ⟨i, hi, hxi⟩ := atM_some hx
      rcases hk with k0 | ⟨k1, hn0⟩ | k3
      · exact rdo_add0 M L v c w H R hM hL hn hs hts hw k0 i x hi hxi
      · exact rdo_add1 M L v c w H R hM hL hn hs hts hw hn0 hc k1 i x hi hxi
      · exact rdo_add3 M L v c w H R hM hL hn hs hts hw k3 i x hi hxi
    · obtain ⟨i, hi, hxi⟩ := atM_some hx
      obtain ⟨j, hj, hyj⟩ := atM_some hy
      exact rdo_share M L v c w H R hM hL hn hs hts hw k2 i x hi hxi j hj (List.getElem?_eq_some_iff.1 hyj).1
    · obtain ⟨j, hj, hyj⟩ := atM_some hy
      exact rdo_cover M L v c w H R hM hL hn hs hts hw k7 j y hj hyj hI
    · obtain ⟨j, hj, hyj⟩ := atM_some hy
      rcases hk with k4 | k5 | ⟨k6, h6⟩ | k8
      · exact rdo_set4 M L v c w H R hM hL hn hs hts hw k4 j y hj hyj (fun e => by omega)
      · exact rdo_set5 M L v c w H R hM hL hn hs hts hw k5 j y hj hyj (fun e => by omega)
      · exact rdo_set6 M L v c w H R hM hL hn hs hts hw k6 j y hj hyj (fun _ => h6)
      · exact rdo_set8 M L v c w H R hM hL hn hs hts hw k8 j y hj hyj (fun e => by omega)
  · exact rdo_refused M L v c w H R hM hL hn hs hts hw
end Go.Proofs.YtfhagjnlliafiaaGreatDoor.V
namespace Go.Proofs.YtfhagjnlliafiaaGreatDoor.V
open Go.RowKit
def chgL (c : Chg) : List Value := [.int .i64 c.kind, .int .i64 c.at_, .int .i64 c.to, .string c.name, .string c.text, .int .i64 c.a, .int .i64 c.b, .int .i64 c.n]
def IsChgs (w : World) (a : Option Addr) (cs : List Chg) : Prop := cs = [] ∨ ∃ g o, a = some ⟨g, o, none⟩ ∧ ∀ (k : Nat) (c : Chg), cs[k]? = some c → w.rangeAt g (o + k * 8) (chgL c)
theorem IsChgs.keep {w w' : World} {a : Option Addr} {cs : List Chg} (h : IsChgs w a cs) (hb : Below w.heap.size w w') : IsChgs w' a cs := by
  rcases h with h | ⟨g, o, h1, h2⟩
  · exact .inl h
  · exact .inr ⟨g, o, h1, fun k c hk j v hj => cell_keep (h2 k c hk j v hj) hb⟩
theorem IsChgs.at_ {w : World} {a : Option Addr} {cs : List Chg} (h : IsChgs w a cs) {k : Nat} {c : Chg} (hk : cs[k]? = some c) : ∃ g o, a = some ⟨g, o, none⟩ ∧ w.rangeAt g (o + k * 8) (chgL c) := by
  rcases h with h | ⟨g, o, h1, h2⟩
  · rw [h] at hk; simp at hk
  · exact ⟨g, o, h1, h2 k c hk⟩
def smallC (c : Chg) : Prop := c.name.size ≤ 300 ∧ c.text.size ≤ 5000
def FewL (cs : List Chg) : Prop := ∀ (k : Nat) (c : Chg), k < 400 → cs[k]? = some c → smallC c
def FewRel (cs : List Chg) (w : World) (v : Value) (wr : World) : Prop := ∃ k : Nat, k ≤ cs.length ∧ k ≤ 400 ∧ v = .int .i64 (k : Int) ∧ wr = w ∧ Hid (∀ (j : Nat) (c : Chg), j < k → cs[j]? = some c → smallC c)
theorem few_any (cs : List Chg) (a : Option Addr) (cap : Nat) (n : Int) (w : World) (H : IsChgs w a cs) (hl : cs.length ≤ 9223372036854775807) (hz : ∀ c ∈ cs, c.name.size ≤ 9223372036854775807 ∧ c.text.size ≤ 9223372036854775807) :
    Calls Tryz.prog 16 #[.slice a cs.length cap, .int .i64 n] w fun e w' => ∃ b : Bool, e = .returned (.bool b) ∧ (b = true ↔ FewL cs ∧ (cs.length : Int) ≤ n) ∧ w' = w := by
  have HH := Lib.hid H
  have HZ := Lib.hid hz
  clear H hz
  go_enter Tryz.func16, Tryz.ntmps16
  go_wp2_with fail
  go_loopw [5] (FewRel cs w) (fun v _ => cs.length - (intOf v).toNat)
  case atStart => exact ⟨0, Nat.zero_le _, by omega, rfl, rfl, Lib.hid (fun j c hj => by omega)⟩
  case round =>
    obtain ⟨k, hk, hk4, rfl, rfl, hno⟩ := hrel
    by_cases hlt : k < cs.length
    · have d1 : decide ((k : Int) < (cs.length : Int)) = true := decide_eq_true (by omega)
      by_cases h4 : k < 400
      · have d2 : decide ((k : Int) < 400) = true := decide_eq_true (by omega)
        obtain ⟨c, hc⟩ : ∃ c, cs[k]? = some c := ⟨_, List.getElem?_eq_getElem hlt⟩
        obtain ⟨g, o, rfl, hr⟩ := HH.out.at_ hc
        have n3 : wr.cell? ⟨g, o + k * 8 + 3, none⟩ = some (.string c.name) := hr 3 _ rfl
        have n4 : wr.cell? ⟨g, o + k * 8 + 4, none⟩ = some (.string c.text) := hr 4 _ rfl
        have HCc := Lib.hid hc
        obtain ⟨z1, z2⟩ := HZ.out c (List.mem_of_getElem? hc)
        clear hr hc
        by_cases hn : 300 < c.name.size
        · have e1 : decide ((300 : Int) < (c.name.size : Int)) = true := decide_eq_true (by omega)
          have HB := Lib.hid (show ¬ (FewL cs ∧ (cs.length : Int) ≤ n) from fun e => by have := (e.1 k c h4 HCc.out).1; omega)
          go_wp2_with fail
          go_ret
          exact ⟨false, rfl, ⟨(fun e => absurd e (by decide)), fun e => absurd e HB.out⟩, rfl⟩
        · have e1 : decide ((300 : Int) < (c.name.size : Int)) = false := decide_eq_false (by omega)
          by_cases ht : 5000 < c.text.size
          · have e2 : decide ((5000 : Int) < (c.text.size : Int)) = true := decide_eq_true (by omega)
            have HB := Lib.hid (show ¬ (FewL cs ∧ (cs.length : Int) ≤ n) from fun e => by have := (e.1 k c h4 HCc.out).2; omega)
            go_wp2_with fail
            go_ret
            exact ⟨false, rfl, ⟨(fun e => absurd e (by decide)), fun e => absurd e HB.out⟩, rfl⟩
          · have e2 : decide ((5000 : Int) < (c.text.size : Int)) = false := decide_eq_false (by omega)
            have HN := Lib.hid (show ∀ (j : Nat) (c : Chg), j < k + 1 → cs[j]? = some c → smallC c from fun j c' hj hj' => by
              rcases Nat.lt_or_ge j k with q | q
              · exact hno.out j c' q hj'
              · obtain rfl : j = k := by omega
                rw [HCc.out] at hj'
                obtain rfl := Option.some.inj hj'
                exact ⟨by omega, by omega⟩)
            go_wp2_with fail
            go_roundw
            case rel => exact ⟨k + 1, by omega, by omega, by simp, rfl, Lib.hid HN.out⟩
            case measure => simp [intOf]; omega
      · have d2 : decide ((k : Int) < 400) = false := decide_eq_false (by omega)
        have HF := Lib.hid (show FewL cs from fun j c hj hc => hno.out j c (by omega) hc)
        go_wp2_with fail
        go_ret
        exact ⟨decide ((cs.length : Int) ≤ n), rfl, ⟨fun e => ⟨HF.out, of_decide_eq_true e⟩, fun e => decide_eq_true e.2⟩, rfl⟩
    · have d1 : decide ((k : Int) < (cs.length : Int)) = false := decide_eq_false (by omega)
      have HF := Lib.hid (show FewL cs from fun j c hj hc => hno.out j c (by have := (List.getElem?_eq_some_iff.1 hc).1; omega) hc)
      go_wp2_with fail
      go_ret
      exact ⟨decide ((cs.length : Int) ≤ n), rfl, ⟨fun e => ⟨HF.out, of_decide_eq_true e⟩, fun e => decide_eq_true e.2⟩, rfl⟩
end Go.Proofs.YtfhagjnlliafiaaGreatDoor.V
namespace Go.Proofs.YtfhagjnlliafiaaGreatDoor.V
open Go.RowKit
def Few2 (a b : Nat) (n : Nd) : Prop := 0 ≤ n.links ∧ n.links ≤ 2 + (a : Int) ∧ n.ents.length ≤ b
theorem all_modify {M : List Nd} {i : Nat} {f : Nd → Nd} {P P' : Nd → Prop} (h : ∀ n ∈ M, P n) (h1 : ∀ n, P n → P' n) (h2 : ∀ n, P n → P' (f n)) : ∀ n ∈ M.modify i f, P' n := by
  intro n hn
  obtain ⟨j, hj⟩ := List.mem_iff_getElem?.1 hn
  rw [List.getElem?_modify] at hj
  cases hm : M[j]? with
  | none => rw [hm] at hj; cases hj
  | some x =>
    rw [hm] at hj
    have hx := h x (List.mem_of_getElem? hm)
    have e : (if i = j then f x else x) = n := Option.some.inj hj
    rw [← e]
    split
    · exact h2 x hx
    · exact h1 x hx
theorem few_ent {M : List Nd} {a b i : Nat} {s : ByteArray} {id : Int} (h : ∀ n ∈ M, Few2 a b n) : ∀ n ∈ M.modify i (addEnt s id), Few2 a (b + 1) n :=
  all_modify h (fun n hn => ⟨hn.1, hn.2.1, by have := hn.2.2; omega⟩) (fun n hn => ⟨hn.1, hn.2.1, by show (n.ents ++ [(s, id)]).length ≤ _; have := hn.2.2; simp; omega⟩)
theorem few_link {M : List Nd} {a b i : Nat} (h : ∀ n ∈ M, Few2 a b n) : ∀ n ∈ M.modify i moreLinks, Few2 (a + 1) b n :=
  all_modify h (fun n hn => ⟨hn.1, by have := hn.2.1; omega, hn.2.2⟩) (fun n hn => ⟨by show 0 ≤ n.links + 1; have := hn.1; omega, by show n.links + 1 ≤ _; have := hn.2.1; omega, hn.2.2⟩)
theorem few_app {M : List Nd} {a b : Nat} {x : Nd} (h : ∀ n ∈ M, Few2 a b n) (hx : Few2 a b x) : ∀ n ∈ M ++ [x], Few2 a b n := fun n hn => by
  rcases List.mem_append.1 hn with q | q
  · exact h n q
  · obtain rfl : n = x := by simpa using q
    exact hx
theorem few_same {M : List Nd} {a b i : Nat} {f : Nd → Nd} (hf : ∀ n, (f n).links = n.links ∧ (f n).ents = n.ents) (h : ∀ n ∈ M, Few2 a b n) : ∀ n ∈ M.modify i f, Few2 a b n :=
  all_modify h (fun n hn => hn) (fun n hn => by unfold Few2; rw [(hf n).1, (hf n).2]; exact hn)
theorem few_more {a b : Nat} {n : Nd} (h : Few2 a b n) : Few2 (a + 1) (b + 1) n := ⟨h.1, by have := h.2.1; omega, by have := h.2.2; omega⟩
theorem small_few {M : List Nd} {k : Nat} (h : Small M k) : ∀ n ∈ M, Few2 k k n := fun n hn => h.2 n hn
theorem setNd_few (c : Chg) (n : Nd) : (setNd c n).links = n.links ∧ (setNd c n).ents = n.ents := by
  unfold setNd
  repeat' split
  all_goals exact ⟨rfl, rfl⟩
theorem small_built {M : List Nd} {k i : Nat} {s : ByteArray} {n : Nd} {d : Int} (h : Small M k) (hl : M.length < 300) (hn : n.ents = []) (h0 : 0 ≤ n.links) (h2 : n.links ≤ 2) : Small (builtM M i s n d) (k + 1) := by
  unfold builtM
  refine ⟨by rw [List.length_modify, List.length_modify, List.length_append]; simp; omega, ?_⟩
  exact few_link (few_ent (few_app (small_few h) ⟨h0, by show n.links ≤ _; omega, by show n.ents.length ≤ _; rw [hn]; simp⟩))
theorem small_do {M : List Nd} {c : Chg} {k : Nat} (h : Small M k) : Small (doM M c) (k + 1) := by
  have hmore : Small M (k + 1) := ⟨h.1, fun n hn => few_more (small_few h n hn)⟩
  unfold doM
  split
  · rename_i hw
    rcases wrong_cases hw with ⟨x, hx, hk, hl⟩ | ⟨k2, x, y, hx, hy, _⟩ | ⟨k7, hl, y, hy⟩ | ⟨hk, y, hy⟩
    · unfold carryM
      rcases hk with k0 | ⟨k1, _⟩ | k3
      · rw [if_pos k0]; exact small_built h hl rfl (by show (0 : Int) ≤ 2; decide) (by show (2 : Int) ≤ 2; decide)
      · rw [if_neg (by omega), if_pos k1]; exact small_built h hl rfl (by show (0 : Int) ≤ 0; decide) (by show (0 : Int) ≤ 2; decide)
      · rw [if_neg (by omega), if_neg (by omega), if_neg (by omega), if_pos k3]; exact small_built h hl rfl (by show (0 : Int) ≤ 0; decide) (by show (0 : Int) ≤ 2; decide)
    · unfold carryM
      rw [if_neg (by omega), if_neg (by omega), if_pos k2]
      refine ⟨by rw [List.length_modify, List.length_modify]; exact h.1, ?_⟩
      exact few_link (few_ent (small_few h))
    · unfold carryM
      rw [if_neg (by omega), if_neg (by omega), if_neg (by omega), if_neg (by omega), if_pos k7]
      unfold coveredM
      refine ⟨by rw [List.length_modify, List.length_append]; simp; omega, ?_⟩
      exact few_same (fun n => ⟨rfl, rfl⟩) (few_app hmore.2 ⟨by show (0 : Int) ≤ 2; decide, by show (2 : Int) ≤ _; omega, by show ([] : List (ByteArray × Int)).length ≤ _; simp⟩)
    · unfold carryM
      rw [if_neg (by omega), if_neg (by omega), if_neg (by omega), if_neg (by omega), if_neg (by omega)]
      refine ⟨by rw [List.length_modify]; exact h.1, ?_⟩
      exact few_same (setNd_few c) hmore.2
  · exact hmore
theorem len_do {M : List Nd} {c : Chg} (h : 0 < M.length) : 0 < (doM M c).length := by
  unfold doM
  split
  · unfold carryM builtM coveredM
    repeat' split
    all_goals simp
    all_goals omega
  · exact h
end Go.Proofs.YtfhagjnlliafiaaGreatDoor.V
namespace Go.Proofs.YtfhagjnlliafiaaGreatDoor.V
open Go.RowKit
theorem foot_type {h : Fsh} {w : World} (H : Fs h w) {k : Nat} (hk : h.foot k) : ∃ cur T, w.heap[k]? = some (.cells cur T (0, 0)) ∧ (T = 84 ∨ T = 87 ∨ T = 46) := by
  rcases hk with rfl | hk | ⟨x, hx, hk⟩
  · exact ⟨_, _, H.head, .inl rfl⟩
  · obtain ⟨cur, hc⟩ := owns_type H.own hk
    exact ⟨cur, _, hc, .inr (.inl rfl)⟩
  · obtain ⟨cur, hc⟩ := owns_type (H.ents x hx) hk
    exact ⟨cur, _, hc, .inr (.inr rfl)⟩
def Keeps (w w' : World) : Prop := ∀ (k : Nat) (cs : Array Value) (T : TypeId), w.heap[k]? = some (.cells cs T (0, 0)) → T ≠ 84 → T ≠ 87 → T ≠ 46 → w'.heap[k]? = some (.cells cs T (0, 0))
theorem Grew.keeps {h h' : Fsh} {w w' : World} (G : Grew h h' w w') (H : Fs h w) : Keeps w w' := fun k cs T hk h1 h2 h3 => (G.kept k (heap_lt hk) fun q => by
  obtain ⟨cur, T', hc, hT⟩ := foot_type H q
  rw [hk] at hc
  simp only [Option.some.injEq, Obj.cells.injEq, and_true] at hc
  obtain ⟨_, rfl⟩ := hc
  rcases hT with e | e | e
  · exact h1 e
  · exact h2 e
  · exact h3 e).trans hk
theorem Keeps.owns {w w' : World} (K : Keeps w w') {e : TypeId} {size n : Nat} {v : Value} {xs : List Value} (ho : w.ownsRow 0 e size v n xs) (h1 : e ≠ 84) (h2 : e ≠ 87) (h3 : e ≠ 46) : w'.ownsRow 0 e size v n xs :=
  owns_at ho fun k hk => by
    obtain ⟨cur, hc⟩ := owns_type ho hk
    rw [K k cur e hc h1 h2 h3, hc]
theorem Keeps.rs {w w' : World} (K : Keeps w w') {M : List Nd} {L : List It} {v : Rv} (H : Rs M L v w) : Rs M L v w' :=
  ⟨K.owns H.hn (by decide) (by decide) (by decide), K.owns H.hl (by decide) (by decide) (by decide), K.owns H.hc (by decide) (by decide) (by decide), K.owns H.hd (by decide) (by decide) (by decide), K.owns H.ha (by decide) (by decide) (by decide), K.owns H.hf (by decide) (by decide) (by decide)⟩
theorem has_do_keeps {w0 w : World} {p : Nat} {M : List Nd} {c : Chg} {k : Nat} (h : Has w0 p M w) (hS : Small M k) (hk : k ≤ 900000) (hn : 0 < M.length) (hc : -9223372036854775808 ≤ c.n ∧ c.n ≤ 9223372036854775807) :
    Calls Tryz.prog 18 #[.pointer (some ⟨p, 0, none⟩), chgV c] w fun e w' => e = .returned (.tuple #[.int .i64 (doR M c), .int .i64 (wrongM M c)]) ∧ Has w0 p (doM M c) w' ∧ Keeps w w' ∧ w.heap.size ≤ w'.heap.size := by
  obtain ⟨h, rfl, rfl, H, hb, hf⟩ := h
  have hml : h.M.length = h.X.length := List.length_map ..
  refine (do_any h c k w H hS hk (by omega) hc).mono ?_
  rintro e w' ⟨he, h', hp', hm', H', G'⟩
  exact ⟨he, ⟨h', hp', hm', H', hb.trans (G'.below hb.size hf), fun j hj => by rcases G'.new j hj with q | q; exact hf j q; exact Nat.le_trans hb.size q⟩, G'.keeps H, G'.size⟩
def runM : List Chg → List Nd → List Nd
  | [], M => M
  | c :: r, M => runM r (doM M c)
theorem runM_append : ∀ (a b : List Chg) (M : List Nd), runM (a ++ b) M = runM b (runM a M)
  | [], b, M => rfl
  | c :: r, b, M => by rw [List.cons_append, runM, runM, runM_append r b]
theorem runM_take {cs : List Chg} {k : Nat} {c : Chg} (hc : cs[k]? = some c) (M : List Nd) : runM (cs.take (k + 1)) M = doM (runM (cs.take k) M) c := by
  rw [List.take_add_one, hc, runM_append]
  rfl
theorem runM_small : ∀ (cs : List Chg) (M : List Nd) (k : Nat), Small M k → Small (runM cs M) (k + cs.length)
  | [], M, k, h => h
  | c :: r, M, k, h => by
    have := runM_small r (doM M c) (k + 1) (small_do h)
    rw [show k + 1 + r.length = k + (c :: r).length by rw [List.length_cons]; omega] at this
    exact this
theorem runM_dev : ∀ (cs : List Chg) (M : List Nd), DevInv M → DevInv (runM cs M)
  | [], M, h => h
  | c :: r, M, h => runM_dev r (doM M c) (devInv_do h)
structure Twin (w0 : World) (p : Nat) (M : List Nd) (L : List It) (v : Rv) (w : World) : Prop where
  fs : Has w0 p M w
  rs : Rs M L v w
  rel : Rel M L
theorem Twin.keep {w0 w w' : World} {p : Nat} {M : List Nd} {L : List It} {v : Rv} (h : Twin w0 p M L v w) (hb : Below w.heap.size w w') : Twin w0 p M L v w' := ⟨h.fs.keep hb, h.rs.keep hb, h.rel⟩
theorem rel_new : Rel newM [] := by
  refine ⟨fun i x hx => ?_, fun x hx => ?_, fun e he => (by cases he), fun e he => (by cases he)⟩
  · match i, hx with
    | 0, hx => simp only [newM, List.getElem?_cons_zero, Option.some.injEq] at hx; subst hx; rfl
    | i + 1, hx => simp [newM] at hx
  · obtain rfl : x = addedNd (dirNd 493 0) 1 [] := by simpa [newM] using hx
    decide
theorem rs_new {w : World} {v : Rv} (h : ROwn w v 1 (addedNd (dirAt 1 493 0) 1 []).bare 0 [] 1 [.int .i64 (-1)] 1 [.bool false] 1 [.int .i64 0] 1 [.int .i64 0]) : Rs newM [] v w :=
  ⟨h.1, h.2.1, h.2.2.1, h.2.2.2.1, h.2.2.2.2.1, h.2.2.2.2.2⟩
end Go.Proofs.YtfhagjnlliafiaaGreatDoor.V
namespace Go.Proofs.YtfhagjnlliafiaaGreatDoor.V
open Go.ChangeShapes Go.WideShapes Go.ChangeAt Go.RowKit Go.Deep
theorem own : ownKnob Tryz.prog.godebug = none := by kernel_rfl
theorem laidOut : laidOutB Tryz.prog = true := by kernel_rfl
theorem cellsInt : Tryz.prog.cellsOf 3 = 1 := by kernel_rfl
theorem cellsI64 : Tryz.prog.cellsOf 2 = 1 := by kernel_rfl
theorem cellsStr : Tryz.prog.cellsOf 9 = 1 := by kernel_rfl
theorem cellsChange : Tryz.prog.cellsOf 56 = 8 := by kernel_rfl
structure WideC (c : Chg) : Prop where
  name : c.name.size ≤ 9223372036854775807
  text : c.text.size ≤ 9223372036854775807
  lo : -9223372036854775808 ≤ c.n
  hi : c.n ≤ 9223372036854775807
  a : -9223372036854775808 ≤ c.a ∧ c.a ≤ 9223372036854775807
  b : -9223372036854775808 ≤ c.b ∧ c.b ≤ 9223372036854775807
theorem le_max_of {n : Nat} (h : n ≤ maxLen) : n ≤ 9223372036854775807 := by unfold maxLen at h; exact h
theorem chg_of_cells {H : Type} {enc : TypeId × Value → H} {W : World} {base : Nat} {sp : Nat → Bool} {held : Bool} {fuel : Nat} {cs : List Value} {y : DataW H × List MemPlace}
    (h : DataW.trod enc Tryz.prog W base sp held fuel 56 cs = some y) : ∃ c : Chg, cs = chgL c ∧ WideC c := by
  obtain ⟨ys, n, _, _, hlen, hyl, hf⟩ := DataW.trod_struct Tryz.underlying56 h
  rw [cellsChange] at hlen
  have f0 := hf 0 _ rfl
  have f1 := hf 1 _ rfl
  have f2 := hf 2 _ rfl
  have f3 := hf 3 _ rfl
  have f4 := hf 4 _ rfl
  have f5 := hf 5 _ rfl
  have f6 := hf 6 _ rfl
  have f7 := hf 7 _ rfl
  clear hf
  match cs, hlen, ys, hyl with
  | [c0, c1, c2, c3, c4, c5, c6, c7], _, [y0, y1, y2, y3, y4, y5, y6, y7], _ =>
    simp [cellsInt, cellsI64, cellsStr] at f0 f1 f2 f3 f4 f5 f6 f7
    obtain ⟨n0, e0, _, _⟩ := DataW.trod_int Tryz.underlying3 f0
    obtain ⟨n1, e1, _, _⟩ := DataW.trod_int Tryz.underlying3 f1
    obtain ⟨n2, e2, _, _⟩ := DataW.trod_int Tryz.underlying3 f2
    obtain ⟨s3, e3, _, g3⟩ := DataW.trod_string Tryz.underlying9 f3
    obtain ⟨s4, e4, _, g4⟩ := DataW.trod_string Tryz.underlying9 f4
    obtain ⟨n5, e5, _, g5⟩ := DataW.trod_int Tryz.underlying3 f5
    obtain ⟨n6, e6, _, g6⟩ := DataW.trod_int Tryz.underlying3 f6
    obtain ⟨n7, e7, _, g7⟩ := DataW.trod_int Tryz.underlying2 f7
    simp at e0 e1 e2 e3 e4 e5 e6 e7
    have b := bounds_i64 g7
    refine ⟨⟨n0, n1, n2, s3, s4, n5, n6, n7⟩, by rw [e0, e1, e2, e3, e4, e5, e6, e7]; rfl, WideC.mk (le_max_of g3) (le_max_of g4) b.1 b.2 (bounds_i64 g5) (bounds_i64 g6)⟩
theorem changes_of {H : Type} {enc : TypeId × Value → H} {W : World} {base : Nat} {sp : Nat → Bool} {held : Bool} {a : Option Addr} {len cap : Nat} {d : DataW H} {p : List MemPlace}
    (h : DataW.Trod enc Tryz.prog W base sp held 22 (.slice a len cap) d p) :
    ∃ cs : List Chg, cs.length = len ∧ IsChgs W a cs ∧ (∀ c ∈ cs, WideC c) ∧ len ≤ 9223372036854775807 := by
  obtain ⟨fuel, hf⟩ := h
  rcases open_slice Tryz.underlying22 hf with ⟨hcs, _⟩ | ⟨x, l, c, m, n, D, Pl, hcs, _, hl, hm, hmm, _, hx⟩
  · simp [Value.cells] at hcs
    obtain ⟨rfl, rfl, rfl⟩ := hcs
    exact ⟨[], rfl, .inl rfl, fun c hc => (by cases hc), by omega⟩
  · simp [Value.cells] at hcs
    obtain ⟨rfl, rfl, rfl⟩ := hcs
    unfold maxLen at hm
    have hlm : len ≤ m := by rw [hmm]; split <;> omega
    rw [cellsChange] at hx
    have each : ∀ i, i < len → ∃ c : Chg, WideC c ∧ ∀ j v, (chgL c)[j]? = some v → W.cell? (x.add (i * 8 + j)) = some v := by
      intro i hi
      obtain ⟨cs', hc, ht⟩ := hx i (by omega)
      obtain ⟨c, rfl, hw⟩ := chg_of_cells ht
      refine ⟨c, hw, fun j v hj => ?_⟩
      obtain ⟨_, _, hat⟩ := World.cells?_some hc
      have hj8 : j < 8 := (List.getElem?_eq_some_iff.1 hj).1
      have := hat j hj8
      rw [Go.Deep.add_add] at this
      rw [this]
      exact hj
    classical
    by_cases h0 : len = 0
    · exact ⟨[], h0.symm, .inl rfl, fun c hc => (by cases hc), by omega⟩
    · have hin : Inhabited Chg := ⟨⟨0, 0, 0, ByteArray.empty, ByteArray.empty, 0, 0, 0⟩⟩
      obtain ⟨f, hf⟩ := choose_lt each
      obtain ⟨b, off, spot⟩ := x
      have hspot : spot = none := by
        have := (hf 0 (by omega)).2 0 _ rfl
        simpa [Addr.add] using World.cell?_spot this
      subst hspot
      refine ⟨(List.range len).map f, by simp, .inr ⟨b, off, rfl, fun k c hk => ?_⟩, fun c hc => ?_, by omega⟩
      · rw [List.getElem?_map] at hk
        obtain ⟨k', hk', rfl⟩ := Option.map_eq_some_iff.1 hk
        have hkl : k < len := by have := (List.getElem?_eq_some_iff.1 hk').1; simpa using this
        rw [List.getElem?_range hkl] at hk'
        obtain rfl := Option.some.inj hk'
        intro j v hj
        have := (hf k hkl).2 j v hj
        rw [add_plain] at this
        rw [Nat.add_assoc]
        exact this
      · obtain ⟨k, hk, rfl⟩ := List.mem_map.1 hc
        exact (hf k (by simpa using hk)).1
end Go.Proofs.YtfhagjnlliafiaaGreatDoor.V
