/-
  What the reference's Do makes of a file more. Conditions: at most 1000000 nodes and entries, texts of at most 1000000 bytes.
-/
import Derived.Test.YtknfhphhcnbndaaGreatDoorGVRefDo0
set_option linter.unusedSimpArgs false
set_option linter.unusedVariables false
namespace Go.Proofs.YtknfhphhcnbndaaGreatDoor.V
open List renaming setIfInBounds_toArray → lt, set_cons_zero → l0, set_cons_succ → ls
open Go.RowKit Go.BigFrame

theorem do_file {M : List Nd} {c : Chg} {i : Nat} {x : Nd} {bl : Int} (hw : wrongM M c = 0) (hk : c.kind = 1) (ht : c.at_ = (i : Int)) (hx : M[i]? = some x) (hb : blkOf c.n = bl) : doM M c = builtM M i c.name (fileNd (c.a % 4096) c.n bl) x.dev ∧ doR M c = (M.length : Int) := by
  have ha : atM M c.at_ = some x := by unfold atM; rw [ht, if_pos ⟨by omega, by have := (List.getElem?_eq_some_iff.1 hx).1; omega⟩, Int.toNat_natCast]; exact hx
  unfold doM doR carryM
  rw [if_pos hw, if_pos hw, if_neg (by omega), if_pos hk, ha, ht, Int.toNat_natCast, hb]
  exact ⟨rfl, rfl⟩

set_option maxRecDepth 100000 in
set_option maxHeartbeats 8000000 in
theorem rdo_add1 (M : List Nd) (L : List It) (v : Rv) (c : Chg) (w : World) (H : Rs M L v w) (R : Rel M L) (hM : M.length ≤ 1000000) (hL : L.length ≤ 1000000) (hn : 0 < M.length) (hs : c.name.size ≤ 1000000) (hts : c.text.size ≤ 1000000) (hw : wrongM M c = 0) (hn0 : 0 ≤ c.n) (hn1 : c.n ≤ 9223372036854775807) (hk : c.kind = 1)
    (i : Nat) (x : Nd) (ht : c.at_ = (i : Int)) (hx : M[i]? = some x) :
    Calls Tryz.prog 41 #[rvV v, chgV c] w (RDoP M L c w) := by
  have HKK := Lib.hid hk
  obtain ⟨b, hb⟩ : ∃ b, c.n / 4096 + (if 0 < c.n % 4096 then 1 else 0) = b := ⟨_, rfl⟩
  have hb0 : 0 ≤ b := by rw [← hb]; split <;> omega
  have hb1 : b ≤ 2251799813685249 := by rw [← hb]; split <;> omega
  obtain ⟨bl, hbl⟩ : ∃ bl, 8 * b = bl := ⟨_, rfl⟩
  have hblk : blkOf c.n = bl := by unfold blkOf; rw [hb, hbl]
  have hmul : IntKind.i64.wrap (8 * b) = bl := by rw [IntWalk.i64_in _ (by omega), hbl]
  have HBb := Lib.hid hb
  clear hb hbl
  have HRs := Lib.hid (do_file hw hk ht hx hblk)
  have HC := Lib.hid (fun w' hb => rwrong_any M L v c w' (H.keep hb) R hM hL hn hs hts)
  have HH := Lib.hid H
  have D0 := DIn.begin w v c
  have HW := Lib.hid hw
  rw [hw] at HC
  clear hw
  obtain ⟨gn, cn, al, cl, gc, cc, ad, cd, aa, ca, af, cf, rfl⟩ := H.at_ hn
  clear H
  have HT := Lib.hid ht
  have HX := Lib.hid hx
  have hil : i < M.length := (List.getElem?_eq_some_iff.1 hx).1
  clear ht hx hk
  unfold chgBox nilsR at D0
  unfold rvV chgV at HC
  unfold rvV chgV
  go_enter Tryz.func41, Tryz.ntmps41
  go_upto_region 1 with fail
  generalize hw2 : ((w.alloc _).alloc _).alloc _ = w2 at D0
  clear hw2
  have HD := Lib.hid D0
  have hb0 := D0.box
  have hc0 := D0.chg
  unfold chgBox at hc0
  have HB0 := Lib.hid hb0
  have HC0 := Lib.hid hc0
  clear hb0 hc0 D0
  go_wp2_with (first
    | fail
    | (refine wpList_load_row rfl 31 (.tmp 2) rfl w.heap.size rfl _ _ _ _ HB0.out Tryz.underlying31 rfl (by rw [sizeRef]; rfl) ?_)
    | (refine wpList_load_row rfl 89 (.tmp 3) rfl (w.heap.size + 1) rfl _ _ _ _ HC0.out Tryz.underlying89 rfl (by rw [sizeChg]; rfl) ?_))
  refine (HC.out _ HD.out.below).mono ?_
  rintro e2 w3 ⟨rfl, hb3⟩
  have D3 := HD.out.keep hb3
  have HD3 := Lib.hid D3
  have HR3 := Lib.hid (HH.out.keep D3.below)
  obtain ⟨q0, q1, q2, q3, q4, q5, q6, q7⟩ := chg_cells D3.chg
  have bx : ∀ j u, (#[.slice (some ⟨gn, 0, none⟩) M.length cn, .slice al L.length cl, .slice (some ⟨gc, 0, none⟩) M.length cc, .slice ad M.length cd, .slice aa M.length ca, .slice af (devL M 0).length cf] : Array Value)[j]? = some u → w3.cell? ⟨w.heap.size, j, none⟩ = some u := fun j u hu => by rw [cell_of_row _ _ _ _ _ _ D3.box]; exact hu
  have p0 := bx 0 _ rfl
  have p1 := bx 1 _ rfl
  have p2 := bx 2 _ rfl
  have p3 := bx 3 _ rfl
  have p4 := bx 4 _ rfl
  have p5 := bx 5 _ rfl
  have n0 : w3.cell? ⟨gn, i * 13, none⟩ = some (.int .i64 x.dev) := (HH.out.keep D3.below).node_cell (k := 0) HX.out (by omega) rfl
  rw [HT.out] at q1
  rw [HKK.out] at q0
  clear D3 hb3 HD HB0 HC0 bx
  go_upto_block 0 with fail
  obtain ⟨nn, hnn⟩ : ∃ nn, addedNd ({ fileNd (c.a % 4096) c.n bl with dev := x.dev }) x.dev M = nn := ⟨_, rfl⟩
  have HNn := Lib.hid hnn
  go_cut [8] from 22 to 114 (fun a8 wx => a8 = .int .i64 (M.length : Int) ∧ AddMid w M L c nn (-1) wx)
  case first =>
    have HO := Lib.hid (fun wx (h : SA w gn M.length cn al L.length cl gc cc ad cd aa ca af (devL M 0).length cf c i x.dev wx ∧ wx.cell? ⟨w.heap.size + 1, 7, none⟩ = some (.int .i64 c.n)) => rown_rs (HH.out.keep h.1.din.below))
    have HADD := Lib.hid (fun wx (h : SA w gn M.length cn al L.length cl gc cc ad cd aa ca af (devL M 0).length cf c i x.dev wx ∧ wx.cell? ⟨w.heap.size + 1, 7, none⟩ = some (.int .i64 c.n)) => show Calls Tryz.prog 88 #[.agg #[.slice (some ⟨gn, 0, none⟩) M.length cn, .slice al L.length cl, .slice (some ⟨gc, 0, none⟩) M.length cc, .slice ad M.length cd, .slice aa M.length ca, .slice af (devL M 0).length cf], .agg #[.int .i64 x.dev, .int .i64 0, .int .i64 1, .int .i64 (c.a % 4096), .int .i64 0, .int .i64 0, .int .i64 c.n, .int .i64 bl, .int .i64 0, .int .i64 0, .int .i64 0, .int .i64 0, .string ⟨#[]⟩], .int .i64 (-1)] wx _ from radd_any M L ⟨.slice (some ⟨gn, 0, none⟩) M.length cn, .slice al L.length cl, .slice (some ⟨gc, 0, none⟩) M.length cc, .slice ad M.length cd, .slice aa M.length ca, .slice af (devL M 0).length cf⟩ ({ fileNd (c.a % 4096) c.n bl with dev := x.dev }) (-1) wx (devL M 0) (HO.out wx h) hM)
    have HSA := Lib.hid (show SA w gn M.length cn al L.length cl gc cc ad cd aa ca af (devL M 0).length cf c i x.dev w3 ∧ w3.cell? ⟨w.heap.size + 1, 7, none⟩ = some (.int .i64 c.n) from ⟨⟨HD3.out, q1, q5, n0, p0, p1, p2, p3, p4, p5⟩, q7⟩)
    clear hnn
    by_cases hr : 0 < c.n % 4096
    · have dr : decide (0 < c.n % 4096) = true := decide_eq_true hr
      have HBe := Lib.hid (show c.n / 4096 + 1 = b by rw [← HBb.out, if_pos hr])
      go_upto_region 12 with fail
      rw [HBe.out]
      clear p0 p1 p2 p3 p4 p5 q0 q1 q2 q3 q4 q5 q6 q7 n0
      refine Till.region (z := 17) (S := fun w' => SA w gn M.length cn al L.length cl gc cc ad cd aa ca af (devL M 0).length cf c i x.dev w' ∧ w'.cell? ⟨w.heap.size + 1, 7, none⟩ = some (.int .i64 c.n)) (by kernel_rfl) ⟨SA.keep HSA.out.1 (Below.refl _ _).drew, cell_keep HSA.out.2 (Below.refl _ _).drew⟩ (fun hHeld => ?_)
      refine Till.take (i := 0) (oi := ⟨some 50, .load 31 (.tmp 2), 31, "ref.go:136", #[], none⟩) (v := .agg #[.slice (some ⟨gn, 0, none⟩) M.length cn, .slice al L.length cl, .slice (some ⟨gc, 0, none⟩) M.length cc, .slice ad M.length cd, .slice aa M.length ca, .slice af (devL M 0).length cf]) rfl (by kernel_rfl) (by kernel_rfl) (by kernel_rfl) (by kernel_rfl) (fun _ _ _ h => h) (Or.inl ⟨by rfl, fun w0 hS0 => ?_⟩) (by assumption) ?_
      · have c0 := hS0.1.s0; have c1 := hS0.1.s1; have c2 := hS0.1.s2; have c3 := hS0.1.s3; have c4 := hS0.1.s4; have c5 := hS0.1.s5; go_simp
      try simp only [Act.put, lt, l0, ls]
      refine Till.take (i := 1) (oi := ⟨some 51, .fieldAddr 31 (.tmp 2) 0, 0, "ref.go:136", #[], none⟩) (v := .pointer (some ⟨w.heap.size, 0, none⟩)) rfl (by kernel_rfl) (by kernel_rfl) (by kernel_rfl) (by kernel_rfl) (fun _ _ _ h => h) (Or.inl ⟨by rfl, fun w0 hS0 => ?_⟩) (by assumption) ?_
      · go_simp
      try simp only [Act.put, lt, l0, ls]
      refine Till.take (i := 2) (oi := ⟨some 52, .load 26 (.tmp 51), 26, "ref.go:136", #[⟨1, .data⟩], none⟩) (v := .slice (some ⟨gn, 0, none⟩) M.length cn) rfl (by kernel_rfl) (by kernel_rfl) (by kernel_rfl) (by kernel_rfl) (fun _ _ _ h => h) (Or.inl ⟨by rfl, fun w0 hS0 => ?_⟩) (by assumption) ?_
      · have c := hS0.1.s0; go_simp
      try simp only [Act.put, lt, l0, ls]
      refine Till.take (i := 3) (oi := ⟨some 53, .fieldAddr 89 (.tmp 3) 1, 0, "ref.go:136", #[], none⟩) (v := .pointer (some ⟨(w.heap.size + 1), 1, none⟩)) rfl (by kernel_rfl) (by kernel_rfl) (by kernel_rfl) (by kernel_rfl) (fun _ _ _ h => h) (Or.inl ⟨by rfl, fun w0 hS0 => ?_⟩) (by assumption) ?_
      · go_simp
      try simp only [Act.put, lt, l0, ls]
      refine Till.take (i := 4) (oi := ⟨some 54, .load 3 (.tmp 53), 3, "ref.go:136", #[⟨3, .data⟩], none⟩) (v := .int .i64 ((i : Int))) rfl (by kernel_rfl) (by kernel_rfl) (by kernel_rfl) (by kernel_rfl) (fun _ _ _ h => h) (Or.inl ⟨by rfl, fun w0 hS0 => ?_⟩) (by assumption) ?_
      · have c := hS0.1.k1; go_simp
      try simp only [Act.put, lt, l0, ls]
      refine Till.take (i := 5) (oi := ⟨some 55, .indexAddr 26 (.tmp 52) (.tmp 54), 0, "ref.go:136", #[⟨2, .data⟩, ⟨4, .data⟩], none⟩) (v := .pointer (some ⟨gn, i * 13, none⟩)) rfl (by kernel_rfl) (by kernel_rfl) (by kernel_rfl) (by kernel_rfl) (fun _ _ _ h => h) (Or.inl ⟨by rfl, fun w0 hS0 => ?_⟩) (by assumption) ?_
      · go_simp
      try simp only [Act.put, lt, l0, ls]
      refine Till.take (i := 6) (oi := ⟨some 56, .fieldAddr 66 (.tmp 55) 0, 0, "ref.go:136", #[⟨5, .data⟩], none⟩) (v := .pointer (some ⟨gn, i * 13, none⟩)) rfl (by kernel_rfl) (by kernel_rfl) (by kernel_rfl) (by kernel_rfl) (fun _ _ _ h => h) (Or.inl ⟨by rfl, fun w0 hS0 => ?_⟩) (by assumption) ?_
      · go_simp
      try simp only [Act.put, lt, l0, ls]
      refine Till.take (i := 7) (oi := ⟨some 57, .load 3 (.tmp 56), 3, "ref.go:136", #[⟨6, .data⟩], none⟩) (v := .int .i64 (x.dev)) rfl (by kernel_rfl) (by kernel_rfl) (by kernel_rfl) (by kernel_rfl) (fun _ _ _ h => h) (Or.inl ⟨by rfl, fun w0 hS0 => ?_⟩) (by assumption) ?_
      · have c := hS0.1.n; go_simp
      try simp only [Act.put, lt, l0, ls]
      refine Till.take (i := 8) (oi := ⟨some 58, .fieldAddr 89 (.tmp 3) 5, 0, "ref.go:136", #[], none⟩) (v := .pointer (some ⟨(w.heap.size + 1), 5, none⟩)) rfl (by kernel_rfl) (by kernel_rfl) (by kernel_rfl) (by kernel_rfl) (fun _ _ _ h => h) (Or.inl ⟨by rfl, fun w0 hS0 => ?_⟩) (by assumption) ?_
      · go_simp
      try simp only [Act.put, lt, l0, ls]
      refine Till.take (i := 9) (oi := ⟨some 59, .load 3 (.tmp 58), 3, "ref.go:136", #[⟨8, .data⟩], none⟩) (v := .int .i64 (c.a)) rfl (by kernel_rfl) (by kernel_rfl) (by kernel_rfl) (by kernel_rfl) (fun _ _ _ h => h) (Or.inl ⟨by rfl, fun w0 hS0 => ?_⟩) (by assumption) ?_
      · have c := hS0.1.k5; go_simp
      try simp only [Act.put, lt, l0, ls]
      refine Till.take (i := 11) (oi := ⟨some 61, .fieldAddr 89 (.tmp 3) 7, 0, "ref.go:136", #[], none⟩) (v := .pointer (some ⟨(w.heap.size + 1), 7, none⟩)) rfl (by kernel_rfl) (by kernel_rfl) (by kernel_rfl) (by kernel_rfl) (fun _ _ _ h => h) (Or.inl ⟨by rfl, fun w0 hS0 => ?_⟩) (by assumption) ?_
      · go_simp
      try simp only [Act.put, lt, l0, ls]
      refine Till.take (i := 12) (oi := ⟨some 62, .load 2 (.tmp 61), 2, "ref.go:136", #[⟨11, .data⟩], none⟩) (v := .int .i64 c.n) rfl (by kernel_rfl) (by kernel_rfl) (by kernel_rfl) (by kernel_rfl) (fun _ _ _ h => h) (Or.inl ⟨by rfl, fun w0 hS0 => ?_⟩) (by assumption) ?_
      · have c := hS0.2; go_simp
      try simp only [Act.put, lt, l0, ls]
      refine Till.take (i := 13) (oi := ⟨some 63, .move (.tmp 9), 2, "ref.go:136", #[], none⟩) (v := .int .i64 b) rfl (by kernel_rfl) (by kernel_rfl) (by kernel_rfl) (by kernel_rfl) (fun _ _ _ h => h) (Or.inl ⟨by rfl, fun w0 hS0 => ?_⟩) (by assumption) ?_
      · go_simp
      try simp only [Act.put, lt, l0, ls]
      refine Till.take (i := 14) (oi := ⟨some 64, .binOp .mul 2 (.const (.int .i64 8)) (.tmp 63) 2, 2, "ref.go:136", #[⟨13, .data⟩], none⟩) (v := .int .i64 bl) rfl (by kernel_rfl) (by kernel_rfl) (by kernel_rfl) (by kernel_rfl) (fun _ _ _ h => h) (Or.inl ⟨by rfl, fun w0 hS0 => ?_⟩) (by assumption) ?_
      · go_simp
      try simp only [Act.put, lt, l0, ls]
      refine Till.next (i := 10) (o := ⟨some 60, .call ⟨.value (.func 89), #[.tmp 59], #[3]⟩, 3, "ref.go:136", #[⟨9, .data⟩], none⟩) (by kernel_rfl) rfl (fun K hK => ?_)
      go_simp
      refine (bits_any c.a _).mono ?_
      rintro e wb ⟨rfl, rfl⟩
      go_wp2_with fail
      refine hK.out _ _ (fun _ => hHeld) ?_
      clear hK K
      try simp only [Act.put, lt, l0, ls]
      refine Till.next (i := 15) (o := ⟨some 65, .build 66 #[(0, .tmp 57), (2, .const (.int .i64 1)), (3, .tmp 60), (6, .tmp 62), (7, .tmp 64)], 66, "ref.go:136", #[⟨7, .data⟩, ⟨10, .data⟩, ⟨12, .data⟩, ⟨14, .data⟩], none⟩) (by kernel_rfl) rfl (fun K hK => ?_)
      go_simp
      refine hK.out _ _ (fun _ => hHeld) ?_
      clear hK K
      try simp only [Act.put, lt, l0, ls]
      refine Till.next (i := 16) (o := ⟨some 66, .call ⟨.value (.func 88), #[.tmp 50, .tmp 65, .const (.int .i64 (-1))], #[31, 66, 3]⟩, 31, "ref.go:136", #[⟨0, .data⟩, ⟨15, .data⟩, ⟨10, .chain⟩], none⟩) (by kernel_rfl) rfl (fun K hK => ?_)
      go_simp
      refine (HADD.out _ hHeld).mono ?_
      rintro e w4 ⟨v3, rfl, ho3, hb3⟩
      obtain ⟨an3, cn3, al3, cl3, ac3, cc3, ad3, cd3, aa3, ca3, af3, cf3, rfl⟩ := rown_forms ho3
      unfold rvV
      have HO3 := Lib.hid ho3
      have HD5 := Lib.hid (hHeld.1.din.keep hb3)
      obtain ⟨t0, u0, t1, u1, t2, u2, t3, u3, t4, u4, t5, u5, h6, b6⟩ := six (.slice an3 (M.length + 1) cn3) (.slice al3 L.length cl3) (.slice ac3 (M.length + 1) cc3) (.slice ad3 (M.length + 1) cd3) (.slice aa3 (M.length + 1) ca3) (.slice af3 (devL M 0).length cf3) HD5.out.box
      have H6 := Lib.hid h6
      have B6 := Lib.hid b6
      clear h6 b6 ho3
      go_wp2_with fail
      refine hK.out _ _ (fun _ => ⟨SA.keep hHeld.1 hb3, cell_keep hHeld.2 hb3⟩) ?_
      clear hK K hb3
      try simp only [Act.put, lt, l0, ls]
      refine Till.next (i := 17) (o := ⟨none, .store 31 (.tmp 2) (.tmp 66), 0, "ref.go:136", #[⟨16, .data⟩, ⟨16, .chain⟩, ⟨0, .phase⟩, ⟨1, .phase⟩, ⟨2, .phase⟩, ⟨3, .phase⟩, ⟨4, .phase⟩, ⟨5, .phase⟩, ⟨6, .phase⟩, ⟨7, .phase⟩, ⟨8, .phase⟩, ⟨9, .phase⟩, ⟨10, .phase⟩, ⟨11, .phase⟩, ⟨12, .phase⟩, ⟨13, .phase⟩, ⟨14, .phase⟩, ⟨15, .phase⟩, ⟨16, .phase⟩], none⟩) (by kernel_rfl) rfl (fun K hK => ?_)
      go_simp
      refine hK.out _ _ (fun q => absurd rfl q) ?_
      clear hK K
      try simp only [Act.put, lt, l0, ls]
      refine Till.done (by kernel_rfl) ?_
      go_wp2_with fail
      go_meet
      refine ⟨rfl, ⟨.slice an3 (M.length + 1) cn3, .slice al3 L.length cl3, .slice ac3 (M.length + 1) cc3, .slice ad3 (M.length + 1) cd3, .slice aa3 (M.length + 1) ca3, .slice af3 (devL M 0).length cf3⟩, ?_, ?_⟩
      · exact HD5.out.but B6.out H6.out
      · have r := But.rown B6.out HD5.out.box HO3.out
        rw [← HNn.out]
        exact r
    · have dr : decide (0 < c.n % 4096) = false := decide_eq_false hr
      have HBe := Lib.hid (show c.n / 4096 = b by rw [← HBb.out, if_neg hr]; omega)
      go_upto_region 12 with fail
      rw [HBe.out]
      clear p0 p1 p2 p3 p4 p5 q0 q1 q2 q3 q4 q5 q6 q7 n0
      refine Till.region (z := 17) (S := fun w' => SA w gn M.length cn al L.length cl gc cc ad cd aa ca af (devL M 0).length cf c i x.dev w' ∧ w'.cell? ⟨w.heap.size + 1, 7, none⟩ = some (.int .i64 c.n)) (by kernel_rfl) ⟨SA.keep HSA.out.1 (Below.refl _ _).drew, cell_keep HSA.out.2 (Below.refl _ _).drew⟩ (fun hHeld => ?_)
      refine Till.take (i := 0) (oi := ⟨some 50, .load 31 (.tmp 2), 31, "ref.go:136", #[], none⟩) (v := .agg #[.slice (some ⟨gn, 0, none⟩) M.length cn, .slice al L.length cl, .slice (some ⟨gc, 0, none⟩) M.length cc, .slice ad M.length cd, .slice aa M.length ca, .slice af (devL M 0).length cf]) rfl (by kernel_rfl) (by kernel_rfl) (by kernel_rfl) (by kernel_rfl) (fun _ _ _ h => h) (Or.inl ⟨by rfl, fun w0 hS0 => ?_⟩) (by assumption) ?_
      · have c0 := hS0.1.s0; have c1 := hS0.1.s1; have c2 := hS0.1.s2; have c3 := hS0.1.s3; have c4 := hS0.1.s4; have c5 := hS0.1.s5; go_simp
      try simp only [Act.put, lt, l0, ls]
      refine Till.take (i := 1) (oi := ⟨some 51, .fieldAddr 31 (.tmp 2) 0, 0, "ref.go:136", #[], none⟩) (v := .pointer (some ⟨w.heap.size, 0, none⟩)) rfl (by kernel_rfl) (by kernel_rfl) (by kernel_rfl) (by kernel_rfl) (fun _ _ _ h => h) (Or.inl ⟨by rfl, fun w0 hS0 => ?_⟩) (by assumption) ?_
      · go_simp
      try simp only [Act.put, lt, l0, ls]
      refine Till.take (i := 2) (oi := ⟨some 52, .load 26 (.tmp 51), 26, "ref.go:136", #[⟨1, .data⟩], none⟩) (v := .slice (some ⟨gn, 0, none⟩) M.length cn) rfl (by kernel_rfl) (by kernel_rfl) (by kernel_rfl) (by kernel_rfl) (fun _ _ _ h => h) (Or.inl ⟨by rfl, fun w0 hS0 => ?_⟩) (by assumption) ?_
      · have c := hS0.1.s0; go_simp
      try simp only [Act.put, lt, l0, ls]
      refine Till.take (i := 3) (oi := ⟨some 53, .fieldAddr 89 (.tmp 3) 1, 0, "ref.go:136", #[], none⟩) (v := .pointer (some ⟨(w.heap.size + 1), 1, none⟩)) rfl (by kernel_rfl) (by kernel_rfl) (by kernel_rfl) (by kernel_rfl) (fun _ _ _ h => h) (Or.inl ⟨by rfl, fun w0 hS0 => ?_⟩) (by assumption) ?_
      · go_simp
      try simp only [Act.put, lt, l0, ls]
      refine Till.take (i := 4) (oi := ⟨some 54, .load 3 (.tmp 53), 3, "ref.go:136", #[⟨3, .data⟩], none⟩) (v := .int .i64 ((i : Int))) rfl (by kernel_rfl) (by kernel_rfl) (by kernel_rfl) (by kernel_rfl) (fun _ _ _ h => h) (Or.inl ⟨by rfl, fun w0 hS0 => ?_⟩) (by assumption) ?_
      · have c := hS0.1.k1; go_simp
      try simp only [Act.put, lt, l0, ls]
      refine Till.take (i := 5) (oi := ⟨some 55, .indexAddr 26 (.tmp 52) (.tmp 54), 0, "ref.go:136", #[⟨2, .data⟩, ⟨4, .data⟩], none⟩) (v := .pointer (some ⟨gn, i * 13, none⟩)) rfl (by kernel_rfl) (by kernel_rfl) (by kernel_rfl) (by kernel_rfl) (fun _ _ _ h => h) (Or.inl ⟨by rfl, fun w0 hS0 => ?_⟩) (by assumption) ?_
      · go_simp
      try simp only [Act.put, lt, l0, ls]
      refine Till.take (i := 6) (oi := ⟨some 56, .fieldAddr 66 (.tmp 55) 0, 0, "ref.go:136", #[⟨5, .data⟩], none⟩) (v := .pointer (some ⟨gn, i * 13, none⟩)) rfl (by kernel_rfl) (by kernel_rfl) (by kernel_rfl) (by kernel_rfl) (fun _ _ _ h => h) (Or.inl ⟨by rfl, fun w0 hS0 => ?_⟩) (by assumption) ?_
      · go_simp
      try simp only [Act.put, lt, l0, ls]
      refine Till.take (i := 7) (oi := ⟨some 57, .load 3 (.tmp 56), 3, "ref.go:136", #[⟨6, .data⟩], none⟩) (v := .int .i64 (x.dev)) rfl (by kernel_rfl) (by kernel_rfl) (by kernel_rfl) (by kernel_rfl) (fun _ _ _ h => h) (Or.inl ⟨by rfl, fun w0 hS0 => ?_⟩) (by assumption) ?_
      · have c := hS0.1.n; go_simp
      try simp only [Act.put, lt, l0, ls]
      refine Till.take (i := 8) (oi := ⟨some 58, .fieldAddr 89 (.tmp 3) 5, 0, "ref.go:136", #[], none⟩) (v := .pointer (some ⟨(w.heap.size + 1), 5, none⟩)) rfl (by kernel_rfl) (by kernel_rfl) (by kernel_rfl) (by kernel_rfl) (fun _ _ _ h => h) (Or.inl ⟨by rfl, fun w0 hS0 => ?_⟩) (by assumption) ?_
      · go_simp
      try simp only [Act.put, lt, l0, ls]
      refine Till.take (i := 9) (oi := ⟨some 59, .load 3 (.tmp 58), 3, "ref.go:136", #[⟨8, .data⟩], none⟩) (v := .int .i64 (c.a)) rfl (by kernel_rfl) (by kernel_rfl) (by kernel_rfl) (by kernel_rfl) (fun _ _ _ h => h) (Or.inl ⟨by rfl, fun w0 hS0 => ?_⟩) (by assumption) ?_
      · have c := hS0.1.k5; go_simp
      try simp only [Act.put, lt, l0, ls]
      refine Till.take (i := 11) (oi := ⟨some 61, .fieldAddr 89 (.tmp 3) 7, 0, "ref.go:136", #[], none⟩) (v := .pointer (some ⟨(w.heap.size + 1), 7, none⟩)) rfl (by kernel_rfl) (by kernel_rfl) (by kernel_rfl) (by kernel_rfl) (fun _ _ _ h => h) (Or.inl ⟨by rfl, fun w0 hS0 => ?_⟩) (by assumption) ?_
      · go_simp
      try simp only [Act.put, lt, l0, ls]
      refine Till.take (i := 12) (oi := ⟨some 62, .load 2 (.tmp 61), 2, "ref.go:136", #[⟨11, .data⟩], none⟩) (v := .int .i64 c.n) rfl (by kernel_rfl) (by kernel_rfl) (by kernel_rfl) (by kernel_rfl) (fun _ _ _ h => h) (Or.inl ⟨by rfl, fun w0 hS0 => ?_⟩) (by assumption) ?_
      · have c := hS0.2; go_simp
      try simp only [Act.put, lt, l0, ls]
      refine Till.take (i := 13) (oi := ⟨some 63, .move (.tmp 9), 2, "ref.go:136", #[], none⟩) (v := .int .i64 b) rfl (by kernel_rfl) (by kernel_rfl) (by kernel_rfl) (by kernel_rfl) (fun _ _ _ h => h) (Or.inl ⟨by rfl, fun w0 hS0 => ?_⟩) (by assumption) ?_
      · go_simp
      try simp only [Act.put, lt, l0, ls]
      refine Till.take (i := 14) (oi := ⟨some 64, .binOp .mul 2 (.const (.int .i64 8)) (.tmp 63) 2, 2, "ref.go:136", #[⟨13, .data⟩], none⟩) (v := .int .i64 bl) rfl (by kernel_rfl) (by kernel_rfl) (by kernel_rfl) (by kernel_rfl) (fun _ _ _ h => h) (Or.inl ⟨by rfl, fun w0 hS0 => ?_⟩) (by assumption) ?_
      · go_simp
      try simp only [Act.put, lt, l0, ls]
      refine Till.next (i := 10) (o := ⟨some 60, .call ⟨.value (.func 89), #[.tmp 59], #[3]⟩, 3, "ref.go:136", #[⟨9, .data⟩], none⟩) (by kernel_rfl) rfl (fun K hK => ?_)
      go_simp
      refine (bits_any c.a _).mono ?_
      rintro e wb ⟨rfl, rfl⟩
      go_wp2_with fail
      refine hK.out _ _ (fun _ => hHeld) ?_
      clear hK K
      try simp only [Act.put, lt, l0, ls]
      refine Till.next (i := 15) (o := ⟨some 65, .build 66 #[(0, .tmp 57), (2, .const (.int .i64 1)), (3, .tmp 60), (6, .tmp 62), (7, .tmp 64)], 66, "ref.go:136", #[⟨7, .data⟩, ⟨10, .data⟩, ⟨12, .data⟩, ⟨14, .data⟩], none⟩) (by kernel_rfl) rfl (fun K hK => ?_)
      go_simp
      refine hK.out _ _ (fun _ => hHeld) ?_
      clear hK K
      try simp only [Act.put, lt, l0, ls]
      refine Till.next (i := 16) (o := ⟨some 66, .call ⟨.value (.func 88), #[.tmp 50, .tmp 65, .const (.int .i64 (-1))], #[31, 66, 3]⟩, 31, "ref.go:136", #[⟨0, .data⟩, ⟨15, .data⟩, ⟨10, .chain⟩], none⟩) (by kernel_rfl) rfl (fun K hK => ?_)
      go_simp
      refine (HADD.out _ hHeld).mono ?_
      rintro e w4 ⟨v3, rfl, ho3, hb3⟩
      obtain ⟨an3, cn3, al3, cl3, ac3, cc3, ad3, cd3, aa3, ca3, af3, cf3, rfl⟩ := rown_forms ho3
      unfold rvV
      have HO3 := Lib.hid ho3
      have HD5 := Lib.hid (hHeld.1.din.keep hb3)
      obtain ⟨t0, u0, t1, u1, t2, u2, t3, u3, t4, u4, t5, u5, h6, b6⟩ := six (.slice an3 (M.length + 1) cn3) (.slice al3 L.length cl3) (.slice ac3 (M.length + 1) cc3) (.slice ad3 (M.length + 1) cd3) (.slice aa3 (M.length + 1) ca3) (.slice af3 (devL M 0).length cf3) HD5.out.box
      have H6 := Lib.hid h6
      have B6 := Lib.hid b6
      clear h6 b6 ho3
      go_wp2_with fail
      refine hK.out _ _ (fun _ => ⟨SA.keep hHeld.1 hb3, cell_keep hHeld.2 hb3⟩) ?_
      clear hK K hb3
      try simp only [Act.put, lt, l0, ls]
      refine Till.next (i := 17) (o := ⟨none, .store 31 (.tmp 2) (.tmp 66), 0, "ref.go:136", #[⟨16, .data⟩, ⟨16, .chain⟩, ⟨0, .phase⟩, ⟨1, .phase⟩, ⟨2, .phase⟩, ⟨3, .phase⟩, ⟨4, .phase⟩, ⟨5, .phase⟩, ⟨6, .phase⟩, ⟨7, .phase⟩, ⟨8, .phase⟩, ⟨9, .phase⟩, ⟨10, .phase⟩, ⟨11, .phase⟩, ⟨12, .phase⟩, ⟨13, .phase⟩, ⟨14, .phase⟩, ⟨15, .phase⟩, ⟨16, .phase⟩], none⟩) (by kernel_rfl) rfl (fun K hK => ?_)
      go_simp
      refine hK.out _ _ (fun q => absurd rfl q) ?_
      clear hK K
      try simp only [Act.put, lt, l0, ls]
      refine Till.done (by kernel_rfl) ?_
      go_wp2_with fail
      go_meet
      refine ⟨rfl, ⟨.slice an3 (M.length + 1) cn3, .slice al3 L.length cl3, .slice ac3 (M.length + 1) cc3, .slice ad3 (M.length + 1) cd3, .slice aa3 (M.length + 1) ca3, .slice af3 (devL M 0).length cf3⟩, ?_, ?_⟩
      · exact HD5.out.but B6.out H6.out
      · have r := But.rown B6.out HD5.out.box HO3.out
        rw [← HNn.out]
        exact r
  case rest =>
    obtain ⟨rfl, v3, D, O⟩ := hcut
    obtain ⟨an3, cn3, al3, cl3, ac3, cc3, ad3, cd3, aa3, ca3, af3, cf3, rfl⟩ := rown_forms O
    obtain ⟨q0, q1, q2, q3, q4, q5, q6, q7⟩ := chg_cells D.chg
    rw [HT.out] at q1
    rw [HKK.out] at q0
    have p1 : wc.cell? ⟨w.heap.size, 1, none⟩ = some (.slice al3 L.length cl3) := by rw [cell_of_row _ _ _ _ _ _ D.box]; rfl
    have HD := Lib.hid D
    have HO := Lib.hid O
    clear D O hnn HC HD3 HR3
    go_upto_region 23 with fail
    have HS0 := Lib.hid (show ∀ w', Below wc.heap.size wc w' → Below wc.heap.size wc w' ∧ w'.cell? ⟨w.heap.size, 1, none⟩ = some (.slice al3 L.length cl3) ∧ w'.cell? ⟨w.heap.size + 1, 1, none⟩ = some (.int .i64 (i : Int)) ∧ w'.cell? ⟨w.heap.size + 1, 3, none⟩ = some (.string c.name) from fun w' hb => ⟨hb, cell_keep p1 hb, cell_keep q1 hb, cell_keep q3 hb⟩)
    go_cut [] from 116 to 130 (fun wx => Lng w wc.drew ⟨.slice an3 (M.length + 1) cn3, .slice al3 L.length cl3, .slice ac3 (M.length + 1) cc3, .slice ad3 (M.length + 1) cd3, .slice aa3 (M.length + 1) ca3, .slice af3 (devL M 0).length cf3⟩ c (L.length + 1) (itCells L ++ itemC (i : Int) c.name (M.length : Int)) wx)
    case first =>
      obtain ⟨i0, hi, hz0, hz1, hz2⟩ := info_parts infoItem
      have HMX := Lib.hid (show 0 + L.length ≤ maxLen from by unfold maxLen; omega)
      have HMY := Lib.hid (show 0 + L.length + 1 ≤ maxLen from by unfold maxLen; omega)
      clear p1 q0 q1 q2 q3 q4 q5 q6 q7
      refine Till.region (z := 14) (S := fun w' => Below wc.heap.size wc w' ∧ w'.cell? ⟨w.heap.size, 1, none⟩ = some (.slice al3 L.length cl3) ∧ w'.cell? ⟨w.heap.size + 1, 1, none⟩ = some (.int .i64 (i : Int)) ∧ w'.cell? ⟨w.heap.size + 1, 3, none⟩ = some (.string c.name)) (by kernel_rfl) (HS0.out _ (Below.refl _ _).drew) (fun hHeld => ?_)
      have HDr := Lib.hid HD.out.drew
      have HOr := Lib.hid (show wc.drew.ownsRow 0 179 3 (.slice al3 L.length cl3) L.length (itCells L) from owns_keep HO.out.2.1 (Below.refl _ _).drew)
      have HS := Lib.hid (show ∀ w', Below wc.drew.heap.size wc.drew w' → Below wc.heap.size wc w' ∧ w'.cell? ⟨w.heap.size, 1, none⟩ = some (.slice al3 L.length cl3) ∧ w'.cell? ⟨w.heap.size + 1, 1, none⟩ = some (.int .i64 (i : Int)) ∧ w'.cell? ⟨w.heap.size + 1, 3, none⟩ = some (.string c.name) from fun w' hb => HS0.out _ ((Below.refl _ _).drew.trans hb))
      generalize hwr : wc.drew = wr at HDr HOr HS hHeld ⊢
      have HWR := Lib.hid hwr
      clear hwr
      have HL1 := Lib.hid (show ∀ o, (wr.alloc o).ownsRow 0 179 3 (.slice al3 L.length cl3) L.length (itCells L) from fun o => HOr.out.alloc o)
      have HL2 := Lib.hid (show ∀ o o', ((wr.alloc o).alloc o').ownsRow 0 179 3 (.slice al3 L.length cl3) L.length (itCells L) from fun o o' => (HOr.out.alloc o).alloc o')
      refine Till.take (i := 1) (oi := ⟨some 117, .fieldAddr 31 (.tmp 2) 1, 0, "ref.go:148", #[], none⟩) (v := .pointer (some ⟨w.heap.size, 1, none⟩)) rfl (by kernel_rfl) (by kernel_rfl) (by kernel_rfl) (by kernel_rfl) (fun _ _ _ h => h) (Or.inl ⟨by rfl, fun w0 hS0 => ?_⟩) (by assumption) ?_
      · go_simp
      try simp only [Act.put, lt, l0, ls]
      refine Till.take (i := 2) (oi := ⟨some 118, .load 27 (.tmp 117), 27, "ref.go:148", #[⟨1, .data⟩], none⟩) (v := .slice al3 L.length cl3) rfl (by kernel_rfl) (by kernel_rfl) (by kernel_rfl) (by kernel_rfl) (fun _ _ _ h => h) (Or.inl ⟨by rfl, fun w0 hS0 => ?_⟩) (by assumption) ?_
      · have c := hS0.2.1; go_simp
      try simp only [Act.put, lt, l0, ls]
      refine Till.take (i := 4) (oi := ⟨some 120, .fieldAddr 89 (.tmp 3) 1, 0, "ref.go:148", #[], none⟩) (v := .pointer (some ⟨(w.heap.size + 1), 1, none⟩)) rfl (by kernel_rfl) (by kernel_rfl) (by kernel_rfl) (by kernel_rfl) (fun _ _ _ h => h) (Or.inl ⟨by rfl, fun w0 hS0 => ?_⟩) (by assumption) ?_
      · go_simp
      try simp only [Act.put, lt, l0, ls]
      refine Till.take (i := 5) (oi := ⟨some 121, .load 3 (.tmp 120), 3, "ref.go:148", #[⟨4, .data⟩], none⟩) (v := .int .i64 (i : Int)) rfl (by kernel_rfl) (by kernel_rfl) (by kernel_rfl) (by kernel_rfl) (fun _ _ _ h => h) (Or.inl ⟨by rfl, fun w0 hS0 => ?_⟩) (by assumption) ?_
      · have c := hS0.2.2.1; go_simp
      try simp only [Act.put, lt, l0, ls]
      refine Till.take (i := 6) (oi := ⟨some 122, .fieldAddr 89 (.tmp 3) 3, 0, "ref.go:148", #[], none⟩) (v := .pointer (some ⟨(w.heap.size + 1), 3, none⟩)) rfl (by kernel_rfl) (by kernel_rfl) (by kernel_rfl) (by kernel_rfl) (fun _ _ _ h => h) (Or.inl ⟨by rfl, fun w0 hS0 => ?_⟩) (by assumption) ?_
      · go_simp
      try simp only [Act.put, lt, l0, ls]
      refine Till.take (i := 7) (oi := ⟨some 123, .load 9 (.tmp 122), 9, "ref.go:148", #[⟨6, .data⟩], none⟩) (v := .string c.name) rfl (by kernel_rfl) (by kernel_rfl) (by kernel_rfl) (by kernel_rfl) (fun _ _ _ h => h) (Or.inl ⟨by rfl, fun w0 hS0 => ?_⟩) (by assumption) ?_
      · have c := hS0.2.2.2; go_simp
      try simp only [Act.put, lt, l0, ls]
      refine Till.take (i := 8) (oi := ⟨some 124, .move (.tmp 8), 3, "ref.go:148", #[], none⟩) (v := .int .i64 (M.length : Int)) rfl (by kernel_rfl) (by kernel_rfl) (by kernel_rfl) (by kernel_rfl) (fun _ _ _ h => h) (Or.inl ⟨by rfl, fun w0 hS0 => ?_⟩) (by assumption) ?_
      · go_simp
      try simp only [Act.put, lt, l0, ls]
      refine Till.take (i := 9) (oi := ⟨some 125, .build 177 #[(0, .tmp 123), (1, .tmp 124)], 177, "ref.go:148", #[⟨7, .data⟩, ⟨8, .data⟩], none⟩) (v := .agg #[.string c.name, .int .i64 (M.length : Int)]) rfl (by kernel_rfl) (by kernel_rfl) (by kernel_rfl) (by kernel_rfl) (fun _ _ _ h => h) (Or.inl ⟨by rfl, fun w0 hS0 => ?_⟩) (by assumption) ?_
      · go_simp
      try simp only [Act.put, lt, l0, ls]
      refine Till.take (i := 10) (oi := ⟨some 126, .build 179 #[(0, .tmp 121), (1, .tmp 125)], 179, "ref.go:148", #[⟨5, .data⟩, ⟨9, .data⟩], none⟩) (v := .agg #[.int .i64 (i : Int), .string c.name, .int .i64 (M.length : Int)]) rfl (by kernel_rfl) (by kernel_rfl) (by kernel_rfl) (by kernel_rfl) (fun _ _ _ h => h) (Or.inl ⟨by rfl, fun w0 hS0 => ?_⟩) (by assumption) ?_
      · go_simp
      try simp only [Act.put, lt, l0, ls]
      refine Till.two (i := 0) (j := 11) (o := ⟨some 116, .buildSlice 27 0 #[], 27, "ref.go:148", #[], none⟩) (o' := ⟨some 127, .buildSlice 27 1 #[(0, .tmp 126)], 27, "ref.go:148", #[⟨10, .data⟩], none⟩) (by kernel_rfl) rfl rfl (fun K hK => ?_) (fun K hK => ?_)
      · go_simp
        refine hK.out _ _ (fun _ => HS.out _ ((Below.refl _ _).alloc (Nat.le_refl _) _)) ?_
        clear hK K
        try simp only [Act.put, lt, l0, ls]
        refine Till.two (i := 3) (j := 11) (o := ⟨some 119, .call ⟨.builtin .append, #[.tmp 116, .tmp 118], #[27, 27]⟩, 27, "ref.go:148", #[⟨0, .data⟩, ⟨2, .data⟩], none⟩) (o' := ⟨some 127, .buildSlice 27 1 #[(0, .tmp 126)], 27, "ref.go:148", #[⟨10, .data⟩], none⟩) (by kernel_rfl) rfl rfl (fun K hK => ?_) (fun K hK => ?_)
        · refine step_append_row rfl (.tmp 116) (.tmp 118) 27 rfl wr.heap.size 179 i0 _ 3 32 Tryz.underlying27 hi hz0 hz1 hz2 rfl (by decide) (.slice (some ⟨wr.heap.size, 0, none⟩) 0 0) 0 [] (by simp [Act.eval]) (owns_made (Nat.le_refl _)) (.slice al3 L.length cl3) L.length (itCells L) (by simp [Act.eval]) (HL1.out _) (its_one L) HMX.out (by omega) (by simp <;> omega) ?_
          intro v1 w1 hown1 hg1
          refine hK.out _ _ (fun _ => HS.out _ (grown_below ((Below.refl _ _).alloc (Nat.le_refl _) _) hg1 (own_ge (owns_made (e := 179) (size := 3) (Nat.le_refl wr.heap.size))) (by simp))) ?_
          clear hK K
          have hB1 : Below wr.heap.size wr w1 := grown_below ((Below.refl _ _).alloc (Nat.le_refl _) _) hg1 (own_ge (owns_made (e := 179) (size := 3) (Nat.le_refl wr.heap.size))) (by simp)
          have hHeld1 := HS.out _ hB1
          try simp only [Act.put, lt, l0, ls]
          refine Till.next (i := 11) (o := ⟨some 127, .buildSlice 27 1 #[(0, .tmp 126)], 27, "ref.go:148", #[⟨10, .data⟩], none⟩) (by kernel_rfl) rfl (fun K hK => ?_)
          go_simp
          refine hK.out _ _ (fun _ => HS.out _ (hB1.alloc hB1.size _)) ?_
          clear hK K
          try simp only [Act.put, lt, l0, ls]
          refine Till.next (i := 12) (o := ⟨some 128, .call ⟨.builtin .append, #[.tmp 119, .tmp 127], #[27, 27]⟩, 27, "ref.go:148", #[⟨3, .data⟩, ⟨11, .data⟩, ⟨3, .chain⟩], none⟩) (by kernel_rfl) rfl (fun K hK => ?_)
          refine step_append_row rfl (.tmp 119) (.tmp 127) 27 rfl wr.heap.size 179 i0 _ 3 32 Tryz.underlying27 hi hz0 hz1 hz2 rfl (by decide) v1 (0 + L.length) ([] ++ itCells L) (by simp [Act.eval]) (hown1.alloc _) (.slice (some ⟨w1.heap.size, 0, none⟩) 1 1) 1 (itemC (i : Int) c.name (M.length : Int)) (by simp [Act.eval]) (owns_single 3 rfl) (itemC_one _ _ _) HMY.out (by omega) (by have := hg1.size; simp at this ⊢; omega) ?_
          intro v2 w2 hown2 hg2
          obtain ⟨g2, cap2, rfl, _, _⟩ := owns_some hown2 (by omega)
          have R := lng_a HDr.out hg1 hown1 hown2 hg2
          have q2 := R.1
          have q3 := R.2.1
          have HR2 := Lib.hid R.2.2
          clear R
          refine hK.out _ _ (fun _ => HS.out _ (grown_below (hB1.alloc hB1.size _) hg2 (own_ge hown1) (by have := hB1.size; simp; omega))) ?_
          clear hK K
          have hHeld2 := HS.out _ (grown_below (hB1.alloc hB1.size _) hg2 (own_ge hown1) (by have := hB1.size; simp; omega))
          try simp only [Act.put, lt, l0, ls]
          refine Till.take (i := 13) (oi := ⟨some 129, .fieldAddr 31 (.tmp 2) 1, 0, "ref.go:148", #[⟨0, .phase⟩, ⟨1, .phase⟩, ⟨2, .phase⟩, ⟨3, .phase⟩, ⟨4, .phase⟩, ⟨5, .phase⟩, ⟨6, .phase⟩, ⟨7, .phase⟩, ⟨8, .phase⟩, ⟨9, .phase⟩, ⟨10, .phase⟩, ⟨11, .phase⟩, ⟨12, .phase⟩], none⟩) (v := .pointer (some ⟨w.heap.size, 1, none⟩)) rfl (by kernel_rfl) (by kernel_rfl) (by kernel_rfl) (by kernel_rfl) (fun _ _ _ h => h) (Or.inl ⟨by rfl, fun w0 hS0 => ?_⟩) (by assumption) ?_
          · go_simp
          try simp only [Act.put, lt, l0, ls]
          refine Till.next (i := 14) (o := ⟨none, .store 27 (.tmp 129) (.tmp 128), 0, "ref.go:148", #[⟨13, .data⟩, ⟨12, .data⟩, ⟨12, .chain⟩, ⟨0, .phase⟩, ⟨1, .phase⟩, ⟨2, .phase⟩, ⟨3, .phase⟩, ⟨4, .phase⟩, ⟨5, .phase⟩, ⟨6, .phase⟩, ⟨7, .phase⟩, ⟨8, .phase⟩, ⟨9, .phase⟩, ⟨10, .phase⟩, ⟨11, .phase⟩, ⟨12, .phase⟩], none⟩) (by kernel_rfl) rfl (fun K hK => ?_)
          go_simp
          refine hK.out _ _ (fun q => absurd rfl q) ?_
          clear hK K
          try simp only [Act.put, lt, l0, ls]
          refine Till.done (by kernel_rfl) ?_
          go_wp2_with fail
          go_meet
          rw [HWR.out]; exact HR2.out
        · go_simp
          refine hK.out _ _ (fun _ => HS.out _ (((Below.refl _ _).alloc (Nat.le_refl _) _).alloc (by simp) _)) ?_
          clear hK K
          try simp only [Act.put, lt, l0, ls]
          refine Till.next (i := 3) (o := ⟨some 119, .call ⟨.builtin .append, #[.tmp 116, .tmp 118], #[27, 27]⟩, 27, "ref.go:148", #[⟨0, .data⟩, ⟨2, .data⟩], none⟩) (by kernel_rfl) rfl (fun K hK => ?_)
          refine step_append_row rfl (.tmp 116) (.tmp 118) 27 rfl wr.heap.size 179 i0 _ 3 32 Tryz.underlying27 hi hz0 hz1 hz2 rfl (by decide) (.slice (some ⟨wr.heap.size, 0, none⟩) 0 0) 0 [] (by simp [Act.eval]) ((owns_made (Nat.le_refl _)).alloc _) (.slice al3 L.length cl3) L.length (itCells L) (by simp [Act.eval]) (HL2.out _ _) (its_one L) HMX.out (by omega) (by simp <;> omega) ?_
          intro v1 w1 hown1 hg1
          have hd1 : ∀ j, (Value.slice (some ⟨wr.heap.size, 0, none⟩) 0 0).ownBlock = some j → wr.heap.size ≤ j := fun j => one_ge (Nat.le_refl _)
          have hB1 : Below wr.heap.size wr w1 := grown_below (((Below.refl _ _).alloc (Nat.le_refl _) _).alloc (by simp) _) hg1 hd1 (by simp; omega)
          have hHeld1 := HS.out _ hB1
          refine hK.out _ _ (fun _ => hHeld1) ?_
          clear hK K
          try simp only [Act.put, lt, l0, ls]
          refine Till.next (i := 12) (o := ⟨some 128, .call ⟨.builtin .append, #[.tmp 119, .tmp 127], #[27, 27]⟩, 27, "ref.go:148", #[⟨3, .data⟩, ⟨11, .data⟩, ⟨3, .chain⟩], none⟩) (by kernel_rfl) rfl (fun K hK => ?_)
          refine step_append_row rfl (.tmp 119) (.tmp 127) 27 rfl wr.heap.size 179 i0 _ 3 32 Tryz.underlying27 hi hz0 hz1 hz2 rfl (by decide) v1 (0 + L.length) ([] ++ itCells L) (by simp [Act.eval]) (hown1) (.slice (some ⟨wr.heap.size + 1, 0, none⟩) 1 1) 1 (itemC (i : Int) c.name (M.length : Int)) (by simp [Act.eval]) (row_b (xs := itemC (i : Int) c.name (M.length : Int)) rfl hg1 (by rw [own_some]; simp)) (itemC_one _ _ _) HMY.out (by omega) (by have := hg1.size; simp at this ⊢; omega) ?_
          intro v2 w2 hown2 hg2
          obtain ⟨g2, cap2, rfl, _, _⟩ := owns_some hown2 (by omega)
          have R := lng_b HDr.out hg1 hd1 hown1 hown2 hg2
          have q2 := R.1
          have q3 := R.2.1
          have HR2 := Lib.hid R.2.2
          clear R
          refine hK.out _ _ (fun _ => HS.out _ (grown_below hB1 hg2 (own_ge hown1) (by have := hB1.size; omega))) ?_
          clear hK K
          have hHeld2 := HS.out _ (grown_below hB1 hg2 (own_ge hown1) (by have := hB1.size; omega))
          try simp only [Act.put, lt, l0, ls]
          refine Till.take (i := 13) (oi := ⟨some 129, .fieldAddr 31 (.tmp 2) 1, 0, "ref.go:148", #[⟨0, .phase⟩, ⟨1, .phase⟩, ⟨2, .phase⟩, ⟨3, .phase⟩, ⟨4, .phase⟩, ⟨5, .phase⟩, ⟨6, .phase⟩, ⟨7, .phase⟩, ⟨8, .phase⟩, ⟨9, .phase⟩, ⟨10, .phase⟩, ⟨11, .phase⟩, ⟨12, .phase⟩], none⟩) (v := .pointer (some ⟨w.heap.size, 1, none⟩)) rfl (by kernel_rfl) (by kernel_rfl) (by kernel_rfl) (by kernel_rfl) (fun _ _ _ h => h) (Or.inl ⟨by rfl, fun w0 hS0 => ?_⟩) (by assumption) ?_
          · go_simp
          try simp only [Act.put, lt, l0, ls]
          refine Till.next (i := 14) (o := ⟨none, .store 27 (.tmp 129) (.tmp 128), 0, "ref.go:148", #[⟨13, .data⟩, ⟨12, .data⟩, ⟨12, .chain⟩, ⟨0, .phase⟩, ⟨1, .phase⟩, ⟨2, .phase⟩, ⟨3, .phase⟩, ⟨4, .phase⟩, ⟨5, .phase⟩, ⟨6, .phase⟩, ⟨7, .phase⟩, ⟨8, .phase⟩, ⟨9, .phase⟩, ⟨10, .phase⟩, ⟨11, .phase⟩, ⟨12, .phase⟩], none⟩) (by kernel_rfl) rfl (fun K hK => ?_)
          go_simp
          refine hK.out _ _ (fun q => absurd rfl q) ?_
          clear hK K
          try simp only [Act.put, lt, l0, ls]
          refine Till.done (by kernel_rfl) ?_
          go_wp2_with fail
          go_meet
          rw [HWR.out]; exact HR2.out
      · go_simp
        refine hK.out _ _ (fun _ => HS.out _ ((Below.refl _ _).alloc (Nat.le_refl _) _)) ?_
        clear hK K
        try simp only [Act.put, lt, l0, ls]
        refine Till.next (i := 0) (o := ⟨some 116, .buildSlice 27 0 #[], 27, "ref.go:148", #[], none⟩) (by kernel_rfl) rfl (fun K hK => ?_)
        go_simp
        refine hK.out _ _ (fun _ => HS.out _ (((Below.refl _ _).alloc (Nat.le_refl _) _).alloc (by simp) _)) ?_
        clear hK K
        try simp only [Act.put, lt, l0, ls]
        refine Till.next (i := 3) (o := ⟨some 119, .call ⟨.builtin .append, #[.tmp 116, .tmp 118], #[27, 27]⟩, 27, "ref.go:148", #[⟨0, .data⟩, ⟨2, .data⟩], none⟩) (by kernel_rfl) rfl (fun K hK => ?_)
        refine step_append_row rfl (.tmp 116) (.tmp 118) 27 rfl wr.heap.size 179 i0 _ 3 32 Tryz.underlying27 hi hz0 hz1 hz2 rfl (by decide) (.slice (some ⟨wr.heap.size + 1, 0, none⟩) 0 0) 0 [] (by simp [Act.eval]) (own_c wr _) (.slice al3 L.length cl3) L.length (itCells L) (by simp [Act.eval]) (HL2.out _ _) (its_one L) HMX.out (by omega) (by simp <;> omega) ?_
        intro v1 w1 hown1 hg1
        have hd1 : ∀ j, (Value.slice (some ⟨wr.heap.size + 1, 0, none⟩) 0 0).ownBlock = some j → wr.heap.size ≤ j := fun j => one_ge (by omega)
        have hB1 : Below wr.heap.size wr w1 := grown_below (((Below.refl _ _).alloc (Nat.le_refl _) _).alloc (by simp) _) hg1 hd1 (by simp; omega)
        have hHeld1 := HS.out _ hB1
        refine hK.out _ _ (fun _ => hHeld1) ?_
        clear hK K
        try simp only [Act.put, lt, l0, ls]
        refine Till.next (i := 12) (o := ⟨some 128, .call ⟨.builtin .append, #[.tmp 119, .tmp 127], #[27, 27]⟩, 27, "ref.go:148", #[⟨3, .data⟩, ⟨11, .data⟩, ⟨3, .chain⟩], none⟩) (by kernel_rfl) rfl (fun K hK => ?_)
        refine step_append_row rfl (.tmp 119) (.tmp 127) 27 rfl wr.heap.size 179 i0 _ 3 32 Tryz.underlying27 hi hz0 hz1 hz2 rfl (by decide) v1 (0 + L.length) ([] ++ itCells L) (by simp [Act.eval]) (hown1) (.slice (some ⟨wr.heap.size, 0, none⟩) 1 1) 1 (itemC (i : Int) c.name (M.length : Int)) (by simp [Act.eval]) (row_c (xs := itemC (i : Int) c.name (M.length : Int)) rfl hg1 (by rw [own_some]; simp)) (itemC_one _ _ _) HMY.out (by omega) (by have := hg1.size; simp at this ⊢; omega) ?_
        intro v2 w2 hown2 hg2
        obtain ⟨g2, cap2, rfl, _, _⟩ := owns_some hown2 (by omega)
        have R := lng_b HDr.out hg1 hd1 hown1 hown2 hg2
        have q2 := R.1
        have q3 := R.2.1
        have HR2 := Lib.hid R.2.2
        clear R
        refine hK.out _ _ (fun _ => HS.out _ (grown_below hB1 hg2 (own_ge hown1) (by have := hB1.size; omega))) ?_
        clear hK K
        have hHeld2 := HS.out _ (grown_below hB1 hg2 (own_ge hown1) (by have := hB1.size; omega))
        try simp only [Act.put, lt, l0, ls]
        refine Till.take (i := 13) (oi := ⟨some 129, .fieldAddr 31 (.tmp 2) 1, 0, "ref.go:148", #[⟨0, .phase⟩, ⟨1, .phase⟩, ⟨2, .phase⟩, ⟨3, .phase⟩, ⟨4, .phase⟩, ⟨5, .phase⟩, ⟨6, .phase⟩, ⟨7, .phase⟩, ⟨8, .phase⟩, ⟨9, .phase⟩, ⟨10, .phase⟩, ⟨11, .phase⟩, ⟨12, .phase⟩], none⟩) (v := .pointer (some ⟨w.heap.size, 1, none⟩)) rfl (by kernel_rfl) (by kernel_rfl) (by kernel_rfl) (by kernel_rfl) (fun _ _ _ h => h) (Or.inl ⟨by rfl, fun w0 hS0 => ?_⟩) (by assumption) ?_
        · go_simp
        try simp only [Act.put, lt, l0, ls]
        refine Till.next (i := 14) (o := ⟨none, .store 27 (.tmp 129) (.tmp 128), 0, "ref.go:148", #[⟨13, .data⟩, ⟨12, .data⟩, ⟨12, .chain⟩, ⟨0, .phase⟩, ⟨1, .phase⟩, ⟨2, .phase⟩, ⟨3, .phase⟩, ⟨4, .phase⟩, ⟨5, .phase⟩, ⟨6, .phase⟩, ⟨7, .phase⟩, ⟨8, .phase⟩, ⟨9, .phase⟩, ⟨10, .phase⟩, ⟨11, .phase⟩, ⟨12, .phase⟩], none⟩) (by kernel_rfl) rfl (fun K hK => ?_)
        go_simp
        refine hK.out _ _ (fun q => absurd rfl q) ?_
        clear hK K
        try simp only [Act.put, lt, l0, ls]
        refine Till.done (by kernel_rfl) ?_
        go_wp2_with fail
        go_meet
        rw [HWR.out]; exact HR2.out
    case rest =>
      obtain ⟨g4, cap4, D4, O4, B4⟩ := hcut
      obtain ⟨u0, u1, u2, u3, u4, u5, u6, u7⟩ := chg_cells D4.chg
      rw [HKK.out] at u0
      have HB8 := Lib.hid D4.box
      have hr8 := D4.res
      unfold nilsR at hr8
      have HR8 := Lib.hid hr8
      have HD8 := Lib.hid D4
      have O' := HO.out
      have hbx := HD.out.drew.box
      have HRO := Lib.hid (rown_mk ⟨.slice an3 (M.length + 1) cn3, .slice (some ⟨g4, 0, none⟩) (L.length + 1) cap4, .slice ac3 (M.length + 1) cc3, .slice ad3 (M.length + 1) cd3, .slice aa3 (M.length + 1) ca3, .slice af3 (devL M 0).length cf3⟩
        (B4.owns (owns_keep O'.1 (Below.refl _ _).drew) hbx (by decide)) (mL := (L ++ [⟨(i : Int), c.name, (M.length : Int)⟩] : List It).length) (xL := itCells (L ++ [⟨(i : Int), c.name, (M.length : Int)⟩])) (by rw [List.length_append, itCells_more]; exact O4) (B4.owns (owns_keep O'.2.2.1 (Below.refl _ _).drew) hbx (by decide)) (B4.owns (owns_keep O'.2.2.2.1 (Below.refl _ _).drew) hbx (by decide)) (B4.owns (owns_keep O'.2.2.2.2.1 (Below.refl _ _).drew) hbx (by decide)) (B4.owns (owns_keep O'.2.2.2.2.2 (Below.refl _ _).drew) hbx (by decide)))
      clear D4 O4 B4 hr8 O' hbx p1 q0 q1 q2 q3 q4 q5 q6 q7 HS0
      go_wp2_with (first
        | fail
        | (refine wpList_load_row rfl 31 (.tmp 2) rfl w.heap.size rfl _ _ _ _ HB8.out Tryz.underlying31 rfl (by rw [sizeRef]; rfl) ?_)
        | (refine wpList_store_row rfl 31 (.tmp 4) (.tmp 133) rfl (w.heap.size + 1 + 1) _ rfl rfl _ _ HR8.out sizeRef rfl (one6 _ _ _ _ _ _ _ _ _ _ _ _ _ _ _ _ _ _) ?_))
      have hrs := Rs.of_add (n := fileNd (c.a % 4096) c.n bl) (d := x.dev) rfl (cntD_ne HX.out) (by have e := HRO.out; rw [← HNn.out] at e; exact e)
      refine bodyPost_ret (v := .tuple #[.agg #[.slice an3 (M.length + 1) cn3, .slice (some ⟨g4, 0, none⟩) (L.length + 1) cap4, .slice ac3 (M.length + 1) cc3, .slice ad3 (M.length + 1) cd3, .slice aa3 (M.length + 1) ca3, .slice af3 (devL M 0).length cf3], .int .i64 (M.length : Int), .int .i64 0]) ?_ rfl ⟨⟨.slice an3 (M.length + 1) cn3, .slice (some ⟨g4, 0, none⟩) (L.length + 1) cap4, .slice ac3 (M.length + 1) cc3, .slice ad3 (M.length + 1) cd3, .slice aa3 (M.length + 1) ca3, .slice af3 (devL M 0).length cf3⟩, L ++ [⟨(i : Int), c.name, (M.length : Int)⟩], ?_, ?_, ?_, by simp, ?_⟩
      · exact results_do rfl (setRow_heap _ _ _ _ _ _ HR8.out) rfl
      · rw [HRs.out.2, HW.out]; rfl
      · rw [HRs.out.1]
        exact (but_setRow HR8.out _).rs HR8.out (hrs.seen seen_built)
      · rw [HRs.out.1]
        exact R.built hil rfl
      · exact (but_setRow HR8.out _).below HD8.out.below (by omega) HD8.out.below.size
end Go.Proofs.YtknfhphhcnbndaaGreatDoor.V
