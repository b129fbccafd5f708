/-
  What the program's isAhead returns.
  Conditions: each fact's own.
-/
import Derived.Test.YtfhagjnlliafiaaGreatDoorKOPr3
set_option linter.unusedVariables false
set_option linter.unusedSimpArgs false
set_option maxHeartbeats 8000000
set_option maxRecDepth 100000
open List renaming setIfInBounds_toArray → lt, set_cons_zero → l0, set_cons_succ → ls
open Go.Act renaming put → u
namespace Go.Proofs.YtfhagjnlliafiaaGreatDoor.O
open Go.Proofs.YtfhagjnlliafiaaGreatDoor.B
open Go.RowKit
theorem so_dirs {o : Int} {rev dirs : Bool} {a b : Ky} (hd : dirs = true) (hn : a.dir ≠ b.dir) : decide (soC o rev dirs a b < 0) = a.dir := by
  unfold soC thenC dirC
  rw [hd]
  simp only [if_true]
  cases ha : a.dir <;> cases hb : b.dir
  · rw [ha, hb] at hn; exact absurd rfl hn
  · rfl
  · rfl
  · rw [ha, hb] at hn; exact absurd rfl hn
theorem so_same {o : Int} {rev dirs : Bool} {a b : Ky} (hd : dirs = true → a.dir = b.dir) : soC o rev dirs a b = if rev = true then cmpK o b a else cmpK o a b := by
  have h0 : dirC dirs a b = 0 := by
    unfold dirC
    split
    · rename_i q
      rw [hd q]
      exact cmpI_tot.self _
    · rfl
  unfold soC thenC
  rw [if_pos h0]
  rfl
theorem below_at {w a b : World} {g : Nat} (hg : w.heap.size = g) (h : Below g w a) (k : Below a.heap.size a b) : Below w.heap.size w b := by
  subst hg
  exact below_two h k
theorem pahead_any (o : Int) (rev dirs : Bool) (a b : Ky) (w : World) (ha : a.name.size ≤ 60000) (hb : b.name.size ≤ 60000) :
    Calls Tryz.prog 72 #[.int .i64 o, .bool rev, .bool dirs, kyV a, kyV b] w fun e w' => e = .returned (.bool (decide (soC o rev dirs a b < 0))) ∧ Below w.heap.size w w' := by
  have HCa := Lib.hid (fun W => pcompare_any o a b W ha hb)
  have HCb := Lib.hid (fun W => pcompare_any o b a W hb ha)
  have HD := Lib.hid (fun h h2 => so_dirs (o := o) (rev := rev) (dirs := dirs) (a := a) (b := b) h h2)
  have HS := Lib.hid (fun h => so_same (o := o) (rev := rev) (dirs := dirs) (a := a) (b := b) h)
  generalize soC o rev dirs a b = S at HD HS ⊢
  generalize cmpK o a b = C1 at HCa HS
  generalize cmpK o b a = C2 at HCb HS
  unfold kyV at HCa HCb ⊢
  go_enter Tryz.func72, Tryz.ntmps72
  go_upto_region 1 with fail
  obtain ⟨X1, X2, XB⟩ := two_boxes' w #[.string a.name, .int .i64 a.size, .int .i64 a.time, .bool a.dir] #[.string b.name, .int .i64 b.size, .int .i64 b.time, .bool b.dir] 70
  have HXa := Lib.hid X1
  have HXb := Lib.hid X2
  have HKa := Lib.hid (ky_at X1)
  have HKb := Lib.hid (ky_at X2)
  have HB := Lib.hid XB
  have HSz := Lib.hid XB.size
  clear X1 X2 XB
  generalize (w.alloc (.cells #[.string a.name, .int .i64 a.size, .int .i64 a.time, .bool a.dir] 70)).alloc (.cells #[.string b.name, .int .i64 b.size, .int .i64 b.time, .bool b.dir] 70) = w2 at HXa HXb HKa HKb HB HSz ⊢
  have HgB := Lib.hid (show w.heap.size ≤ w.heap.size + 1 from Nat.le_succ _)
  obtain ⟨gA, hgA⟩ : ∃ g, w.heap.size = g := ⟨_, rfl⟩
  have HgA := Lib.hid hgA
  rw [hgA] at HXa HXb HKa HKb HB HSz HgB ⊢
  clear hgA
  have hne : gA ≠ gA + 1 := by omega
  generalize gA + 1 = gB at HXb HKb HgB hne ⊢
  obtain ⟨a0, a1, a2, a3⟩ := HKa.out w2 (Below.refl _ _)
  obtain ⟨b0, b1, b2, b3⟩ := HKb.out w2 (Below.refl _ _)
  have fa : ∀ j, w2.frozen? ⟨gA, j, none⟩ = false := fun j => frozen_of_row w2 gA j _ _ HXa.out
  have fb : ∀ j, w2.frozen? ⟨gB, j, none⟩ = false := fun j => frozen_of_row w2 gB j _ _ HXb.out
  cases dirs with
  | false =>
    have HS2 := Lib.hid (HS.out (fun z => absurd z (by decide)))
    clear HS HD
    cases rev with
    | false =>
      rw [if_neg (by decide)] at HS2
      go_wp2_with (go_at_call 98; refine (HCa.out _).mono ?_; rintro e w3 ⟨rfl, hb⟩; have HB3 := Lib.hid (HB.out.trans (hb.mono HSz.out)); clear hb)
      go_ret
      exact ⟨ret_bool (by rw [HS2.out]), by rw [HgA.out]; exact HB3.out⟩
    | true =>
      rw [if_pos rfl] at HS2
      have HB8 := Lib.hid ((((((((HB.out.setCell (p := ⟨gA, 0, none⟩) (Nat.le_refl _) (.string b.name)).setCell (p := ⟨gA, 1, none⟩) (Nat.le_refl _) (.int .i64 b.size)).setCell (p := ⟨gA, 2, none⟩) (Nat.le_refl _) (.int .i64 b.time)).setCell (p := ⟨gA, 3, none⟩) (Nat.le_refl _) (.bool b.dir)).setCell (p := ⟨gB, 0, none⟩) HgB.out (.string a.name)).setCell (p := ⟨gB, 1, none⟩) HgB.out (.int .i64 a.size)).setCell (p := ⟨gB, 2, none⟩) HgB.out (.int .i64 a.time)).setCell (p := ⟨gB, 3, none⟩) HgB.out (.bool a.dir))
      go_wp2_with fail
      refine (HCb.out _).mono ?_
      rintro e w3 ⟨rfl, hb⟩
      have HB3 := Lib.hid (below_at HgA.out HB8.out hb)
      clear hb HB8
      go_wp2_with fail
      go_ret
      exact ⟨ret_bool (by rw [HS2.out]), HB3.out⟩
  | true =>
    go_cut [18] from 11 to 18 (fun v18 wx => ∃ D : Bool, v18 = .bool D ∧ Hid (w2 = wx ∧ (D = true → a.dir ≠ b.dir) ∧ (D = false → a.dir = b.dir)))
    case first =>
      have bb : ∀ b : Bool, b = false ∨ b = true := fun b => by cases b <;> simp
      rcases bb a.dir with hxd | hxd
      · have HXd := Lib.hid hxd
        rw [hxd] at a3
        clear hxd
        rcases bb b.dir with hyd | hyd
        · have HYd := Lib.hid hyd
          rw [hyd] at b3
          clear hyd
          go_wp2_with fail
          go_meet
          case rel => exact ⟨false, rfl, Lib.hid ⟨rfl, fun z => absurd z (by decide), fun _ => by rw [HXd.out, HYd.out]⟩⟩
        · have HYd := Lib.hid hyd
          rw [hyd] at b3
          clear hyd
          go_wp2_with fail
          go_meet
          case rel => exact ⟨true, rfl, Lib.hid ⟨rfl, fun _ => (by rw [HXd.out, HYd.out]; decide), fun z => absurd z (by decide)⟩⟩
      · have HXd := Lib.hid hxd
        rw [hxd] at a3
        clear hxd
        rcases bb b.dir with hyd | hyd
        · have HYd := Lib.hid hyd
          rw [hyd] at b3
          clear hyd
          go_wp2_with fail
          go_meet
          case rel => exact ⟨true, rfl, Lib.hid ⟨rfl, fun _ => (by rw [HXd.out, HYd.out]; decide), fun z => absurd z (by decide)⟩⟩
        · have HYd := Lib.hid hyd
          rw [hyd] at b3
          clear hyd
          go_wp2_with fail
          go_meet
          case rel => exact ⟨false, rfl, Lib.hid ⟨rfl, fun z => absurd z (by decide), fun _ => by rw [HXd.out, HYd.out]⟩⟩
    case rest =>
      obtain ⟨D, rfl, hq⟩ := hcut
      obtain ⟨rfl, hq1, hq2⟩ := hq.out
      cases D with
      | true =>
        have HE := Lib.hid (HD.out rfl (hq1 rfl))
        clear hq1 hq2 HS HD
        go_wp2_with fail
        go_ret
        exact ⟨ret_bool HE.out.symm, by rw [HgA.out]; exact HB.out⟩
      | false =>
        have HS2 := Lib.hid (HS.out (fun _ => hq2 rfl))
        clear hq1 hq2 HS HD
        cases rev with
        | false =>
          rw [if_neg (by decide)] at HS2
          go_wp2_with (go_at_call 98; refine (HCa.out _).mono ?_; rintro e w3 ⟨rfl, hb⟩; have HB3 := Lib.hid (HB.out.trans (hb.mono HSz.out)); clear hb)
          go_ret
          exact ⟨ret_bool (by rw [HS2.out]), by rw [HgA.out]; exact HB3.out⟩
        | true =>
          rw [if_pos rfl] at HS2
          have HB8 := Lib.hid ((((((((HB.out.setCell (p := ⟨gA, 0, none⟩) (Nat.le_refl _) (.string b.name)).setCell (p := ⟨gA, 1, none⟩) (Nat.le_refl _) (.int .i64 b.size)).setCell (p := ⟨gA, 2, none⟩) (Nat.le_refl _) (.int .i64 b.time)).setCell (p := ⟨gA, 3, none⟩) (Nat.le_refl _) (.bool b.dir)).setCell (p := ⟨gB, 0, none⟩) HgB.out (.string a.name)).setCell (p := ⟨gB, 1, none⟩) HgB.out (.int .i64 a.size)).setCell (p := ⟨gB, 2, none⟩) HgB.out (.int .i64 a.time)).setCell (p := ⟨gB, 3, none⟩) HgB.out (.bool a.dir))
          go_wp2_with fail
          refine (HCb.out _).mono ?_
          rintro e w3 ⟨rfl, hb⟩
          have HB3 := Lib.hid (below_at HgA.out HB8.out hb)
          clear hb HB8
          go_wp2_with fail
          go_ret
          exact ⟨ret_bool (by rw [HS2.out]), HB3.out⟩
end Go.Proofs.YtfhagjnlliafiaaGreatDoor.O
namespace Go.Proofs.YtfhagjnlliafiaaGreatDoor.O
open Go.Proofs.YtfhagjnlliafiaaGreatDoor.B
open Go.RowKit
def CapAt (W : World) (bo br bd bl : Nat) (o : Int) (rev dirs : Bool) (a : Option Addr) (n cap : Nat) : Prop :=
  W.cell? ⟨bo, 0, none⟩ = some (.int .i64 o) ∧ W.cell? ⟨br, 0, none⟩ = some (.bool rev) ∧ W.cell? ⟨bd, 0, none⟩ = some (.bool dirs) ∧ W.cell? ⟨bl, 0, none⟩ = some (.slice a n cap)
theorem pclo_any (o : Int) (rev dirs : Bool) (l : List Ky) (a : Option Addr) (cap : Nat) (i k bo br bd bl : Nat) (w : World) (H : IsKeys w a l) (hl : l.length ≤ 1000000) (hz : ∀ c ∈ l, c.name.size ≤ 60000) (hi : i < l.length) (hk : k < l.length)
    (hcl : ∀ W, Below w.heap.size w W → CapAt W bo br bd bl o rev dirs a l.length cap) :
    Calls Tryz.prog 71 #[.int .i64 (i : Int), .int .i64 (k : Int), .pointer (some ⟨bo, 0, none⟩), .pointer (some ⟨br, 0, none⟩), .pointer (some ⟨bd, 0, none⟩), .pointer (some ⟨bl, 0, none⟩)] w fun e w' => e = .returned (.bool (decide (soC o rev dirs (l.getD i noKy) (l.getD k noKy) < 0))) ∧ Below w.heap.size w w' := by
  obtain ⟨x, hx⟩ : ∃ x, l[i]? = some x := ⟨_, List.getElem?_eq_getElem hi⟩
  obtain ⟨y, hy⟩ : ∃ y, l[k]? = some y := ⟨_, List.getElem?_eq_getElem hk⟩
  rw [getD_at hx, getD_at hy]
  have HA := Lib.hid (fun W => pahead_any o rev dirs x y W (hz x (List.mem_of_getElem? hx)) (hz y (List.mem_of_getElem? hy)))
  generalize decide (soC o rev dirs x y < 0) = R at HA ⊢
  obtain ⟨g, of, rfl, hg, hr1⟩ := H.at_ hx
  obtain ⟨g2, of2, e2, _, hr2⟩ := H.at_ hy
  simp only [Option.some.injEq, Addr.mk.injEq] at e2
  obtain ⟨rfl, rfl, _⟩ := e2
  have HRx := Lib.hid (show ∀ W, Below w.heap.size w W → W.cell? ⟨g, of + i * 4, none⟩ = some (.string x.name) ∧ W.cell? ⟨g, of + i * 4 + 1, none⟩ = some (.int .i64 x.size) ∧ W.cell? ⟨g, of + i * 4 + 2, none⟩ = some (.int .i64 x.time) ∧ W.cell? ⟨g, of + i * 4 + 3, none⟩ = some (.bool x.dir) from fun W hb =>
    ⟨(hb.cell (p := ⟨g, _, none⟩) hg).trans (hr1 0 _ rfl), (hb.cell (p := ⟨g, _, none⟩) hg).trans (hr1 1 _ rfl), (hb.cell (p := ⟨g, _, none⟩) hg).trans (hr1 2 _ rfl), (hb.cell (p := ⟨g, _, none⟩) hg).trans (hr1 3 _ rfl)⟩)
  have HRy := Lib.hid (show ∀ W, Below w.heap.size w W → W.cell? ⟨g, of + k * 4, none⟩ = some (.string y.name) ∧ W.cell? ⟨g, of + k * 4 + 1, none⟩ = some (.int .i64 y.size) ∧ W.cell? ⟨g, of + k * 4 + 2, none⟩ = some (.int .i64 y.time) ∧ W.cell? ⟨g, of + k * 4 + 3, none⟩ = some (.bool y.dir) from fun W hb =>
    ⟨(hb.cell (p := ⟨g, _, none⟩) hg).trans (hr2 0 _ rfl), (hb.cell (p := ⟨g, _, none⟩) hg).trans (hr2 1 _ rfl), (hb.cell (p := ⟨g, _, none⟩) hg).trans (hr2 2 _ rfl), (hb.cell (p := ⟨g, _, none⟩) hg).trans (hr2 3 _ rfl)⟩)
  have HC := Lib.hid hcl
  clear hr1 hr2 hx hy hz H hcl
  unfold kyV at HA
  go_enter Tryz.func71, Tryz.ntmps71
  go_upto_region 1 with fail
  refine Till.region (z := 1000) (S := fun w' => Below w.heap.size w w') (by kernel_rfl) ((Below.refl _ _).drew) (fun hHeld => ?_)
  refine Till.tk 0 (oi := ⟨some 9, .load 3 (.tmp 2), 3, "order.go:54", #[], none⟩) (.int .i64 o) rfl (fun w0 hS0 => ?_) ?_
  · obtain ⟨r0, r1, r2, r3⟩ := HC.out _ hS0; go_simp
  try simp only [u, lt, l0, ls]
  refine Till.tk 1 (oi := ⟨some 10, .load 4 (.tmp 3), 4, "order.go:54", #[], none⟩) (.bool rev) rfl (fun w0 hS0 => ?_) ?_
  · obtain ⟨r0, r1, r2, r3⟩ := HC.out _ hS0; go_simp
  try simp only [u, lt, l0, ls]
  refine Till.tk 2 (oi := ⟨some 11, .load 4 (.tmp 4), 4, "order.go:54", #[], none⟩) (.bool dirs) rfl (fun w0 hS0 => ?_) ?_
  · obtain ⟨r0, r1, r2, r3⟩ := HC.out _ hS0; go_simp
  try simp only [u, lt, l0, ls]
  refine Till.tk 3 (oi := ⟨some 12, .load 66 (.tmp 5), 66, "order.go:54", #[], none⟩) (.slice (some ⟨g, of, none⟩) l.length cap) rfl (fun w0 hS0 => ?_) ?_
  · obtain ⟨r0, r1, r2, r3⟩ := HC.out _ hS0; go_simp
  try simp only [u, lt, l0, ls]
  refine Till.tk 4 (oi := ⟨some 13, .move (.tmp 0), 3, "order.go:54", #[], none⟩) (.int .i64 (i : Int)) rfl (fun w0 hS0 => ?_) ?_
  · go_simp
  try simp only [u, lt, l0, ls]
  refine Till.tk 5 (oi := ⟨some 14, .indexAddr 66 (.tmp 12) (.tmp 13), 0, "order.go:54", #[⟨3, .data⟩, ⟨4, .data⟩], none⟩) (.pointer (some ⟨g, (of + i * 4), none⟩)) rfl (fun w0 hS0 => ?_) ?_
  · go_simp
  try simp only [u, lt, l0, ls]
  refine Till.tk 6 (oi := ⟨some 15, .load 70 (.tmp 14), 70, "order.go:54", #[⟨5, .data⟩], none⟩) (.agg #[.string x.name, .int .i64 x.size, .int .i64 x.time, .bool x.dir]) rfl (fun w0 hS0 => ?_) ?_
  · obtain ⟨r0, r1, r2, r3⟩ := HRx.out _ hS0; go_simp
  try simp only [u, lt, l0, ls]
  refine Till.tk 7 (oi := ⟨some 16, .load 66 (.tmp 5), 66, "order.go:54", #[], none⟩) (.slice (some ⟨g, of, none⟩) l.length cap) rfl (fun w0 hS0 => ?_) ?_
  · obtain ⟨r0, r1, r2, r3⟩ := HC.out _ hS0; go_simp
  try simp only [u, lt, l0, ls]
  refine Till.tk 8 (oi := ⟨some 17, .move (.tmp 1), 3, "order.go:54", #[], none⟩) (.int .i64 (k : Int)) rfl (fun w0 hS0 => ?_) ?_
  · go_simp
  try simp only [u, lt, l0, ls]
  refine Till.tk 9 (oi := ⟨some 18, .indexAddr 66 (.tmp 16) (.tmp 17), 0, "order.go:54", #[⟨7, .data⟩, ⟨8, .data⟩], none⟩) (.pointer (some ⟨g, (of + k * 4), none⟩)) rfl (fun w0 hS0 => ?_) ?_
  · go_simp
  try simp only [u, lt, l0, ls]
  refine Till.tk 10 (oi := ⟨some 19, .load 70 (.tmp 18), 70, "order.go:54", #[⟨9, .data⟩], none⟩) (.agg #[.string y.name, .int .i64 y.size, .int .i64 y.time, .bool y.dir]) rfl (fun w0 hS0 => ?_) ?_
  · obtain ⟨r0, r1, r2, r3⟩ := HRy.out _ hS0; go_simp
  try simp only [u, lt, l0, ls]
  refine Till.tn 11 rfl fun K hK => ?_
  go_simp
  refine (HA.out _).mono ?_
  rintro e w3 ⟨rfl, hb3⟩
  have hHeld3 : Below w.heap.size w w3 := below_two hHeld hb3
  clear hb3
  go_wp2_with fail
  refine hK.out _ _ (fun _ => hHeld3) ?_
  clear hK K
  try simp only [u, lt, l0, ls]
  refine Till.tk 12 (oi := ⟨some 8, .assign (.tmp 20), 4, "order.go:54", #[⟨11, .data⟩, ⟨11, .chain⟩, ⟨0, .phase⟩, ⟨1, .phase⟩, ⟨2, .phase⟩, ⟨3, .phase⟩, ⟨4, .phase⟩, ⟨5, .phase⟩, ⟨6, .phase⟩, ⟨7, .phase⟩, ⟨8, .phase⟩, ⟨9, .phase⟩, ⟨10, .phase⟩, ⟨11, .phase⟩], none⟩) (.bool R) rfl (fun w0 hS0 => ?_) ?_
  · go_simp
  try simp only [u, lt, l0, ls]
  refine Till.done (by kernel_rfl) ?_
  go_wp2
  go_ret
  exact ⟨rfl, hHeld3⟩
end Go.Proofs.YtfhagjnlliafiaaGreatDoor.O
