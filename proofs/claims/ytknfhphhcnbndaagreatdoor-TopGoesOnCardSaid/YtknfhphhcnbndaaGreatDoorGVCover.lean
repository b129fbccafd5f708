/-
  What FS.Devices returns: the numbers of the devices' first nodes, in order. Conditions: at most 1000000 nodes.
  What FS.cover makes: a device's first, and that it covers a directory. Conditions: at most 1000000 nodes.
-/
import Derived.Test.YtknfhphhcnbndaaGreatDoorGVAdd
import Derived.OwnWalk
import Derived.Test.YtknfhphhcnbndaaGreatDoorGVEnter
set_option linter.unusedVariables false
set_option linter.unusedSimpArgs false
namespace Go.Proofs.YtknfhphhcnbndaaGreatDoor.V
open Go.RowKit

def devL : List Nd → Nat → List Int
  | [], _ => []
  | n :: r, k => (if n.ino = 1 then [(k : Int)] else []) ++ devL r (k + 1)
theorem devL_append : ∀ (a b : List Nd) (k : Nat), devL (a ++ b) k = devL a k ++ devL b (k + a.length)
  | [], b, k => by simp [devL]
  | x :: r, b, k => by rw [List.cons_append, devL, devL, devL_append r b, List.length_cons, List.append_assoc, show k + 1 + r.length = k + (r.length + 1) by omega]
theorem devL_len : ∀ (a : List Nd) (k : Nat), (devL a k).length ≤ a.length
  | [], k => by simp [devL]
  | x :: r, k => by have := devL_len r (k + 1); rw [devL, List.length_append, List.length_cons]; split <;> simp <;> omega
def devX (X : List (Nd × Value)) (k : Nat) : List Int := devL ((X.take k).map Prod.fst) 0
theorem devX_next {X : List (Nd × Value)} {k : Nat} {x : Nd × Value} (h : X[k]? = some x) : devX X (k + 1) = devX X k ++ if x.1.ino = 1 then [(k : Int)] else [] := by
  have hk := (List.getElem?_eq_some_iff.1 h).1
  unfold devX
  rw [List.take_add_one, h, List.map_append, devL_append]
  simp [devL, Nat.min_eq_left (Nat.le_of_lt hk)]
theorem infoInt : (Tryz.prog.info? 3).map (fun i => (i.zero, i.size, i.bytes)) = some (some (.int .i64 0), 1, 8) := by kernel_rfl
def ints (l : List Int) : List Value := l.map (Value.int .i64)

def DevRel (h : Fsh) (w : World) (v c : Value) (wr : World) : Prop :=
  ∃ k : Nat, k ≤ h.X.length ∧ c = .int .i64 (k : Int) ∧ Below w.heap.size w wr ∧ wr.ownsRow w.heap.size 3 1 v (devX h.X k).length (ints (devX h.X k))

set_option maxRecDepth 100000 in
set_option maxHeartbeats 2000000 in
theorem devices_any (h : Fsh) (w : World) (H : Fs h w) (hn : 0 < h.X.length) (hX : h.X.length ≤ 1000000) :
    Calls Tryz.prog 42 #[.pointer (some ⟨h.p, 0, none⟩)] w fun e w' => ∃ v, e = .returned v ∧ w'.ownsRow w.heap.size 3 1 v (devL h.M 0).length (ints (devL h.M 0)) ∧ Below w.heap.size w w' := by
  obtain ⟨g, cap, hv, _, _⟩ := H.slice hn
  have c0 := H.cell0
  rw [hv] at c0
  obtain ⟨i0, hi0, hz0, hz1, hz2⟩ := info_parts infoInt
  have HH := Lib.hid H
  clear hv H
  go_enter Tryz.func42, Tryz.ntmps42
  go_wp2
  go_loopw [3, 10] (DevRel h w) (fun _ c _ => h.X.length - (intOf c).toNat)
  case atStart => exact ⟨0, Nat.zero_le _, rfl, Below.refl _ _, World.ownsRow_nil _ _ _ _⟩
  case round =>
    obtain ⟨k, hk, rfl, hb, ho⟩ := hrel
    have hsz := hb.size
    have HB := Lib.hid hb
    have HO := Lib.hid ho
    have hlen : (devX h.X k).length ≤ 1000000 := by
      have := devL_len ((h.X.take k).map Prod.fst) 0
      unfold devX
      simp only [List.length_map, List.length_take] at this
      omega
    clear hb ho
    by_cases hlt : k < h.X.length
    · obtain ⟨x, hx⟩ : ∃ x, h.X[k]? = some x := ⟨_, List.getElem?_eq_getElem hlt⟩
      have hf := isFirst_any h k x wr (HH.out.keep HB.out) hx
      have HX := Lib.hid hx
      have HM := Lib.hid (show (devX h.X k).length + 1 ≤ maxLen from by unfold maxLen; omega)
      have HF := Lib.hid hf
      clear hx hf
      by_cases h1 : x.1.ino = 1
      · have b1 : (x.1.ino == 1) = true := by simp [h1]
        have H1 := Lib.hid h1
        clear h1
        go_wp2_with (first
          | (at_builtin; refine wpList_append_own _ rfl (.tmp 16) (.tmp 18) 28 rfl w.heap.size 3 i0 (.int .i64 0) 1 8 Tryz.underlying28 hi0 hz0 hz1 hz2 rfl (by decide) _ _ _ rfl (HO.out.alloc _) ⟨wr.heap.size, 0, none⟩ 1 1 [.int .i64 (k : Int)] rfl rfl (World.news_of_block (heap_alloc_new _ _)) (by intro u hu; simp at hu; subst hu; rfl) HM.out (by omega) (by simp; omega) ?_; intro v1 w1 hown1 hgrow hnil)
          | (refine HF.out.mono ?_; rintro e w2 ⟨rfl, hw⟩; subst hw; rw [b1]))
        have R : DevRel h w v1 (.int .i64 ((k : Int) + 1)) w1 := by
          refine ⟨k + 1, by omega, by simp, ((HB.out.alloc hsz _).grown hgrow (by simp; omega) (fun j hj => (HO.out.lt j hj).1)), ?_⟩
          rw [devX_next HX.out, if_pos H1.out, List.length_append]
          unfold ints
          rw [List.map_append]
          exact hown1
        have RR := Lib.hid R
        clear R hown1 hgrow hnil
        go_roundw
        case rel => exact RR.out
        case measure => simp [intOf]; omega
      · have b1 : (x.1.ino == 1) = false := by simp [h1]
        have H1 := Lib.hid h1
        clear h1
        go_wp2_with (refine HF.out.mono ?_; rintro e w2 ⟨rfl, hw⟩; subst hw; rw [b1])
        go_roundw
        case rel =>
          refine ⟨k + 1, by omega, by simp, HB.out, ?_⟩
          rw [devX_next HX.out, if_neg H1.out, List.append_nil]
          exact HO.out
        case measure => simp [intOf]; omega
    · go_wp2
      go_ret
      have hke : k = h.X.length := by omega
      have e : devX h.X k = devL h.M 0 := by rw [hke]; unfold devX Fsh.M; rw [List.take_length]
      exact ⟨_, rfl, by rw [← e]; exact HO.out, HB.out⟩
end Go.Proofs.YtknfhphhcnbndaaGreatDoor.V

namespace Go.Proofs.YtknfhphhcnbndaaGreatDoor.V
open Go.RowKit

def setOver (k : Int) (n : Nd) : Nd := { n with over := k }
def coveredM (M : List Nd) (i : Nat) (mode up : Int) : List Nd :=
  (M ++ [addedNd (dirNd (mode % 4096) up) (((devL M 0).length : Int) + 1) M]).modify i (setOver (M.length : Int))

theorem owns_form {w : World} {base : Nat} {e : TypeId} {size n : Nat} {v : Value} {xs : List Value} (h : w.ownsRow base e size v n xs) : ∃ ao cap, v = .slice ao n cap := by
  rcases h.2 with ⟨e, e2⟩ | ⟨g, cap, cur, e, _⟩
  · exact ⟨none, 0, by rw [e, e2]⟩
  · exact ⟨_, cap, e⟩
/-- What the walk wants of the world behind add. -/
theorem cover_mid {h : Fsh} {w0 w w3 : World} {v' : Value} {n : Nd} {i : Nat} {x : Nd × Value} (hb : Below w0.heap.size w0 w) (H : Fs ⟨h.p, v', h.X ++ [(n, .slice none 0 0)]⟩ w3) (hG : Grew h ⟨h.p, v', h.X ++ [(n, .slice none 0 0)]⟩ w w3) (hx : h.X[i]? = some x) :
    ∃ g cap, w3.cell? ⟨h.p, 0, none⟩ = some (.slice (some ⟨g, 0, none⟩) (h.X.length + 1) cap) ∧ w3.cell? ⟨g, i * 17 + 15, none⟩ = some (.int .i64 x.1.over) ∧ w3.frozen? ⟨g, i * 17 + 15, none⟩ = false ∧
      ∃ h', h'.p = h.p ∧ h'.M = (h.M ++ [n]).modify i (setOver (h.X.length : Int)) ∧ Fs h' (w3.setCell ⟨g, i * 17 + 15, none⟩ (.int .i64 (h.X.length : Int))) ∧ Grew h h' w0 (w3.setCell ⟨g, i * 17 + 15, none⟩ (.int .i64 (h.X.length : Int))) := by
  have hi := (List.getElem?_eq_some_iff.1 hx).1
  obtain ⟨g, cap, hv, _, _⟩ := H.slice (by simp)
  have hx' : (h.X ++ [(n, Value.slice none 0 0)])[i]? = some x := by rw [List.getElem?_append_left hi]; exact hx
  have c0 := H.cell0
  rw [hv] at c0
  have hl : (h.X ++ [(n, Value.slice none 0 0)]).length = h.X.length + 1 := by simp
  refine ⟨g, cap, by rw [← hl]; exact c0, H.at_node hv hx' (k := 15) (by omega) rfl, H.frozen_node hv _, ?_⟩
  obtain ⟨r1, r2⟩ := H.set hv (n := x.1) (n' := setOver (h.X.length : Int) x.1) (ev := x.2) hx' (k := 15) (by omega) (u := .int .i64 (h.X.length : Int)) rfl rfl
  refine ⟨Fsh.mk h.p v' ((h.X ++ [(n, Value.slice none 0 0)]).set i (setOver (h.X.length : Int) x.1, x.2)), rfl, ?_, r1, (Grew.of_below hb).trans (hG.trans r2)⟩
  have := map_set (setOver (h.X.length : Int)) (ev := x.2) (ev' := x.2) hx'
  unfold Fsh.M
  rw [this, List.map_append]
  rfl

set_option maxRecDepth 100000 in
set_option maxHeartbeats 4000000 in
theorem cover_any (h : Fsh) (i : Nat) (x : Nd × Value) (m : Int) (w : World) (H : Fs h w) (hx : h.X[i]? = some x) (hX : h.X.length ≤ 1000000) :
    Calls Tryz.prog 131 #[.pointer (some ⟨h.p, 0, none⟩), .int .i64 (i : Int), .int .i64 m] w fun e w' => e = .returned (.int .i64 (h.X.length : Int)) ∧
      ∃ h', h'.p = h.p ∧ h'.M = coveredM h.M i m x.1.up ∧ Fs h' w' ∧ Grew h h' w w' := by
  have hil : i < h.X.length := (List.getElem?_eq_some_iff.1 hx).1
  obtain ⟨g, cap, hv, _, _⟩ := H.slice (by omega)
  have c0 := H.cell0
  rw [hv] at c0
  have c14 := H.at_node hv hx (k := 14) (by omega) rfl
  have HH := Lib.hid H
  have HX := Lib.hid hx
  have HK := Lib.hid (show ∀ W, Below w.heap.size w W → Fs h W ∧ W.cell? ⟨h.p, 0, none⟩ = some (.slice (some ⟨g, 0, none⟩) h.X.length cap) ∧ W.cell? ⟨g, i * 17 + 14, none⟩ = some (.int .i64 x.1.up) from fun W hb => by
    have HW := H.keep hb
    have d0 := HW.cell0
    rw [hv] at d0
    exact ⟨HW, d0, HW.at_node hv hx (k := 14) (by omega) rfl⟩)
  have hdl := devL_len h.M 0
  have hml : h.M.length = h.X.length := List.length_map ..
  rw [hml] at hdl
  obtain ⟨D, hD⟩ : ∃ D, (devL h.M 0).length = D := ⟨_, rfl⟩
  have HD := Lib.hid hD
  rw [hD] at hdl
  have hn0 : 0 < h.X.length := by omega
  have hwr : IntKind.i64.wrap ((D : Int) + 1) = (D : Int) + 1 := by rw [IntKind.wrap_i64]; omega
  have HB0 := Lib.hid (show Below w.heap.size w w.drew from (Below.refl _ _).drew)
  have HM := Lib.hid hml
  clear H hx hv hD hml
  go_enter Tryz.func131, Tryz.ntmps131
  go_wp2
  go_region_law (first
    | (go_simp; go_at_call 42; refine (devices_any h _ (by first | exact (HK.out _ HB0.out).1 | exact (HK.out _ HBd.out).1) hn0 hX).mono ?_; rintro e w1 ⟨v1, rfl, ho1, hb1⟩; have HBe := Lib.hid (show Below w.heap.size w w1 from by first | exact below_two HB0.out hb1 | exact below_two HBd.out hb1); have q1 := (HK.out _ HBe.out).2.1; have q2 := (HK.out _ HBe.out).2.2; obtain ⟨ao1, cap1, rfl⟩ := owns_form ho1; rw [HD.out]; clear ho1 hb1)
    | (go_simp; go_at_call 78; refine (directory_any m x.1.up _).mono ?_; rintro e w1 ⟨rfl, hb1⟩; have HBd := Lib.hid (show Below w.heap.size w w1 from by first | exact below_two HB0.out hb1 | exact below_two HBe.out hb1); have q1 := (HK.out _ HBd.out).2.1; have q2 := (HK.out _ HBd.out).2.2; clear hb1)
    | (go_simp; go_at_call 77; refine (add_any h (dirNd (m % 4096) x.1.up) ((D : Int) + 1) _ (by first | exact (HK.out _ HBe.out).1 | exact (HK.out _ HBd.out).1) rfl hX).mono ?_; rintro e w3 ⟨rfl, v', H3, G3⟩; obtain ⟨g3, cap3, p0, p15, f15, hR⟩ := cover_mid (w0 := w) (by first | exact HBd.out | exact HBe.out) H3 G3 HX.out; have R := Lib.hid hR; clear hR H3 G3))
  all_goals go_wp2
  all_goals go_ret
  all_goals (obtain ⟨h', r1, r2, r3, r4⟩ := R.out; exact ⟨rfl, h', r1, by rw [r2]; unfold coveredM; rw [HD.out, HM.out], r3, r4⟩)
end Go.Proofs.YtknfhphhcnbndaaGreatDoor.V
