/-
  What the program's isAhead returns. Conditions: names of at most 60000 bytes.
-/
import Derived.Test.YteeddednonmglaaDoorOPr3
set_option linter.unusedVariables false
namespace Go.Proofs.YteeddednonmglaaDoor
open Go.RowKit

theorem so_dirs {o : Int} {rev dirs : Bool} {a b : Ky} (hd : dirs = true) (hn : a.dir ≠ b.dir) : decide (soC o rev dirs a b < 0) = a.dir := by
  unfold soC thenC dirC
  rw [hd]
  simp only [if_true]
  cases ha : a.dir <;> cases hb : b.dir
  · rw [ha, hb] at hn; exact absurd rfl hn
  · rfl
  · rfl
  · rw [ha, hb] at hn; exact absurd rfl hn
theorem so_same {o : Int} {rev dirs : Bool} {a b : Ky} (hd : dirs = true → a.dir = b.dir) : soC o rev dirs a b = if rev = true then cmpK o b a else cmpK o a b := by
  have h0 : dirC dirs a b = 0 := by
    unfold dirC
    split
    · rename_i q
      rw [hd q]
      exact cmpI_tot.self _
    · rfl
  unfold soC thenC
  rw [if_pos h0]
  rfl
theorem below_at {w a b : World} {g : Nat} (hg : w.heap.size = g) (h : Below g w a) (k : Below a.heap.size a b) : Below w.heap.size w b := by
  subst hg
  exact below_two h k
set_option maxRecDepth 100000 in
set_option maxHeartbeats 8000000 in
theorem pahead_any (o : Int) (rev dirs : Bool) (a b : Ky) (w : World) (ha : a.name.size ≤ 60000) (hb : b.name.size ≤ 60000) :
    Calls Tryd.prog 19 #[.int .i64 o, .bool rev, .bool dirs, kyV a, kyV b] w fun e w' => e = .returned (.bool (decide (soC o rev dirs a b < 0))) ∧ Below w.heap.size w w' := by
  have HCa := Lib.hid (fun W => pcompare_any o a b W ha hb)
  have HCb := Lib.hid (fun W => pcompare_any o b a W hb ha)
  have HD := Lib.hid (fun h h2 => so_dirs (o := o) (rev := rev) (dirs := dirs) (a := a) (b := b) h h2)
  have HS := Lib.hid (fun h => so_same (o := o) (rev := rev) (dirs := dirs) (a := a) (b := b) h)
  generalize soC o rev dirs a b = S at HD HS ⊢
  generalize cmpK o a b = C1 at HCa HS
  generalize cmpK o b a = C2 at HCb HS
  unfold kyV at HCa HCb ⊢
  go_enter Tryd.func19, Tryd.ntmps19
  go_upto_region 1 with fail
  obtain ⟨X1, X2, XB⟩ := two_boxes' w #[.string a.name, .int .i64 a.size, .int .i64 a.time, .bool a.dir] #[.string b.name, .int .i64 b.size, .int .i64 b.time, .bool b.dir] 26
  have HXa := Lib.hid X1
  have HXb := Lib.hid X2
  have HKa := Lib.hid (ky_at X1)
  have HKb := Lib.hid (ky_at X2)
  have HB := Lib.hid XB
  have HSz := Lib.hid XB.size
  clear X1 X2 XB
  generalize (w.alloc (.cells #[.string a.name, .int .i64 a.size, .int .i64 a.time, .bool a.dir] 26)).alloc (.cells #[.string b.name, .int .i64 b.size, .int .i64 b.time, .bool b.dir] 26) = w2 at HXa HXb HKa HKb HB HSz ⊢
  have HgB := Lib.hid (show w.heap.size ≤ w.heap.size + 1 from Nat.le_succ _)
  obtain ⟨gA, hgA⟩ : ∃ g, w.heap.size = g := ⟨_, rfl⟩
  have HgA := Lib.hid hgA
  rw [hgA] at HXa HXb HKa HKb HB HSz HgB ⊢
  clear hgA
  have hne : gA ≠ gA + 1 := by omega
  generalize gA + 1 = gB at HXb HKb HgB hne ⊢
  obtain ⟨a0, a1, a2, a3⟩ := HKa.out w2 (Below.refl _ _)
  obtain ⟨b0, b1, b2, b3⟩ := HKb.out w2 (Below.refl _ _)
  have fa : ∀ j, w2.frozen? ⟨gA, j, none⟩ = false := fun j => frozen_of_row w2 gA j _ _ HXa.out
  have fb : ∀ j, w2.frozen? ⟨gB, j, none⟩ = false := fun j => frozen_of_row w2 gB j _ _ HXb.out
  cases dirs with
  | false =>
    have HS2 := Lib.hid (HS.out (fun z => absurd z (by decide)))
    clear HS HD
    cases rev with
    | false =>
      rw [if_neg (by decide)] at HS2
      go_wp2_with (go_at_call 11; refine (HCa.out _).mono ?_; rintro e w3 ⟨rfl, hb⟩; have HB3 := Lib.hid (HB.out.trans (hb.mono HSz.out)); clear hb)
      go_ret
      exact ⟨ret_bool (by rw [HS2.out]), by rw [HgA.out]; exact HB3.out⟩
    | true =>
      rw [if_pos rfl] at HS2
      have HB8 := Lib.hid ((((((((HB.out.setCell (p := ⟨gA, 0, none⟩) (Nat.le_refl _) (.string b.name)).setCell (p := ⟨gA, 1, none⟩) (Nat.le_refl _) (.int .i64 b.size)).setCell (p := ⟨gA, 2, none⟩) (Nat.le_refl _) (.int .i64 b.time)).setCell (p := ⟨gA, 3, none⟩) (Nat.le_refl _) (.bool b.dir)).setCell (p := ⟨gB, 0, none⟩) HgB.out (.string a.name)).setCell (p := ⟨gB, 1, none⟩) HgB.out (.int .i64 a.size)).setCell (p := ⟨gB, 2, none⟩) HgB.out (.int .i64 a.time)).setCell (p := ⟨gB, 3, none⟩) HgB.out (.bool a.dir))
      go_wp2_with fail
      refine (HCb.out _).mono ?_
      rintro e w3 ⟨rfl, hb⟩
      have HB3 := Lib.hid (below_at HgA.out HB8.out hb)
      clear hb HB8
      go_wp2_with fail
      go_ret
      exact ⟨ret_bool (by rw [HS2.out]), HB3.out⟩
  | true =>
    go_cut [18] from 11 to 18 (fun v18 wx => ∃ D : Bool, v18 = .bool D ∧ Hid (w2 = wx ∧ (D = true → a.dir ≠ b.dir) ∧ (D = false → a.dir = b.dir)))
    case first =>
      have bb : ∀ b : Bool, b = false ∨ b = true := fun b => by cases b <;> simp
      rcases bb a.dir with hxd | hxd
      · have HXd := Lib.hid hxd
        rw [hxd] at a3
        clear hxd
        rcases bb b.dir with hyd | hyd
        · have HYd := Lib.hid hyd
          rw [hyd] at b3
          clear hyd
          go_wp2_with fail
          go_meet
          case rel => exact ⟨false, rfl, Lib.hid ⟨rfl, fun z => absurd z (by decide), fun _ => by rw [HXd.out, HYd.out]⟩⟩
        · have HYd := Lib.hid hyd
          rw [hyd] at b3
          clear hyd
          go_wp2_with fail
          go_meet
          case rel => exact ⟨true, rfl, Lib.hid ⟨rfl, fun _ => (by rw [HXd.out, HYd.out]; decide), fun z => absurd z (by decide)⟩⟩
      · have HXd := Lib.hid hxd
        rw [hxd] at a3
        clear hxd
        rcases bb b.dir with hyd | hyd
        · have HYd := Lib.hid hyd
          rw [hyd] at b3
          clear hyd
          go_wp2_with fail
          go_meet
          case rel => exact ⟨true, rfl, Lib.hid ⟨rfl, fun _ => (by rw [HXd.out, HYd.out]; decide), fun z => absurd z (by decide)⟩⟩
        · have HYd := Lib.hid hyd
          rw [hyd] at b3
          clear hyd
          go_wp2_with fail
          go_meet
          case rel => exact ⟨false, rfl, Lib.hid ⟨rfl, fun z => absurd z (by decide), fun _ => by rw [HXd.out, HYd.out]⟩⟩
    case rest =>
      obtain ⟨D, rfl, hq⟩ := hcut
      obtain ⟨rfl, hq1, hq2⟩ := hq.out
      cases D with
      | true =>
        have HE := Lib.hid (HD.out rfl (hq1 rfl))
        clear hq1 hq2 HS HD
        go_wp2_with fail
        go_ret
        exact ⟨ret_bool HE.out.symm, by rw [HgA.out]; exact HB.out⟩
      | false =>
        have HS2 := Lib.hid (HS.out (fun _ => hq2 rfl))
        clear hq1 hq2 HS HD
        cases rev with
        | false =>
          rw [if_neg (by decide)] at HS2
          go_wp2_with (go_at_call 11; refine (HCa.out _).mono ?_; rintro e w3 ⟨rfl, hb⟩; have HB3 := Lib.hid (HB.out.trans (hb.mono HSz.out)); clear hb)
          go_ret
          exact ⟨ret_bool (by rw [HS2.out]), by rw [HgA.out]; exact HB3.out⟩
        | true =>
          rw [if_pos rfl] at HS2
          have HB8 := Lib.hid ((((((((HB.out.setCell (p := ⟨gA, 0, none⟩) (Nat.le_refl _) (.string b.name)).setCell (p := ⟨gA, 1, none⟩) (Nat.le_refl _) (.int .i64 b.size)).setCell (p := ⟨gA, 2, none⟩) (Nat.le_refl _) (.int .i64 b.time)).setCell (p := ⟨gA, 3, none⟩) (Nat.le_refl _) (.bool b.dir)).setCell (p := ⟨gB, 0, none⟩) HgB.out (.string a.name)).setCell (p := ⟨gB, 1, none⟩) HgB.out (.int .i64 a.size)).setCell (p := ⟨gB, 2, none⟩) HgB.out (.int .i64 a.time)).setCell (p := ⟨gB, 3, none⟩) HgB.out (.bool a.dir))
          go_wp2_with fail
          refine (HCb.out _).mono ?_
          rintro e w3 ⟨rfl, hb⟩
          have HB3 := Lib.hid (below_at HgA.out HB8.out hb)
          clear hb HB8
          go_wp2_with fail
          go_ret
          exact ⟨ret_bool (by rw [HS2.out]), HB3.out⟩
end Go.Proofs.YteeddednonmglaaDoor
