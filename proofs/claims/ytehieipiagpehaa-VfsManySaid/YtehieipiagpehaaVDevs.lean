/-
  What FS.Devices returns: the numbers of the devices' first nodes, in order. Conditions: at most 1000000 nodes.
-/
import Derived.Test.YtehieipiagpehaaVPush
import Derived.OwnWalk
namespace Go.Proofs.Ytehieipiagpehaa
open Go.RowKit

def devL : List Nd → Nat → List Int
  | [], _ => []
  | n :: r, k => (if n.ino = 1 then [(k : Int)] else []) ++ devL r (k + 1)
theorem devL_append : ∀ (a b : List Nd) (k : Nat), devL (a ++ b) k = devL a k ++ devL b (k + a.length)
  | [], b, k => by simp [devL]
  | x :: r, b, k => by rw [List.cons_append, devL, devL, devL_append r b, List.length_cons, List.append_assoc, show k + 1 + r.length = k + (r.length + 1) by omega]
theorem devL_len : ∀ (a : List Nd) (k : Nat), (devL a k).length ≤ a.length
  | [], k => by simp [devL]
  | x :: r, k => by have := devL_len r (k + 1); rw [devL, List.length_append, List.length_cons]; split <;> simp <;> omega
def devX (X : List (Nd × Value)) (k : Nat) : List Int := devL ((X.take k).map Prod.fst) 0
theorem devX_next {X : List (Nd × Value)} {k : Nat} {x : Nd × Value} (h : X[k]? = some x) : devX X (k + 1) = devX X k ++ if x.1.ino = 1 then [(k : Int)] else [] := by
  have hk := (List.getElem?_eq_some_iff.1 h).1
  unfold devX
  rw [List.take_add_one, h, List.map_append, devL_append]
  simp [devL, Nat.min_eq_left (Nat.le_of_lt hk)]
theorem infoInt : (Try.prog.info? 3).map (fun i => (i.zero, i.size, i.bytes)) = some (some (.int .i64 0), 1, 8) := by kernel_rfl
def ints (l : List Int) : List Value := l.map (Value.int .i64)

def DevRel (h : Fsh) (w : World) (v c : Value) (wr : World) : Prop :=
  ∃ k : Nat, k ≤ h.X.length ∧ c = .int .i64 (k : Int) ∧ Below w.heap.size w wr ∧ wr.ownsRow w.heap.size 3 1 v (devX h.X k).length (ints (devX h.X k))

set_option maxRecDepth 100000 in
set_option maxHeartbeats 2000000 in
theorem devices_any (h : Fsh) (w : World) (H : Fs h w) (hn : 0 < h.X.length) (hX : h.X.length ≤ 1000000) :
    Calls Try.prog 23 #[.pointer (some ⟨h.p, 0, none⟩)] w fun e w' => ∃ v, e = .returned v ∧ w'.ownsRow w.heap.size 3 1 v (devL h.M 0).length (ints (devL h.M 0)) ∧ Below w.heap.size w w' := by
  obtain ⟨g, cap, hv, _, _⟩ := H.slice hn
  have c0 := H.cell0
  rw [hv] at c0
  obtain ⟨i0, hi0, hz0, hz1, hz2⟩ := info_parts infoInt
  have HH := Lib.hid H
  clear hv H
  go_enter Try.func23, Try.ntmps23
  go_wp2
  go_loopw [3, 10] (DevRel h w) (fun _ c _ => h.X.length - (intOf c).toNat)
  case atStart => exact ⟨0, Nat.zero_le _, rfl, Below.refl _ _, World.ownsRow_nil _ _ _ _⟩
  case round =>
    obtain ⟨k, hk, rfl, hb, ho⟩ := hrel
    have hsz := hb.size
    have HB := Lib.hid hb
    have HO := Lib.hid ho
    have hlen : (devX h.X k).length ≤ 1000000 := by
      have := devL_len ((h.X.take k).map Prod.fst) 0
      unfold devX
      simp only [List.length_map, List.length_take] at this
      omega
    clear hb ho
    by_cases hlt : k < h.X.length
    · obtain ⟨x, hx⟩ : ∃ x, h.X[k]? = some x := ⟨_, List.getElem?_eq_getElem hlt⟩
      have hf := isFirst_any h k x wr (HH.out.keep HB.out) hx
      have HX := Lib.hid hx
      have HM := Lib.hid (show (devX h.X k).length + 1 ≤ maxLen from by unfold maxLen; omega)
      have HF := Lib.hid hf
      clear hx hf
      by_cases h1 : x.1.ino = 1
      · have b1 : (x.1.ino == 1) = true := by simp [h1]
        have H1 := Lib.hid h1
        clear h1
        go_wp2_with (first
          | (at_builtin; refine wpList_append_own _ rfl (.tmp 16) (.tmp 18) 29 rfl w.heap.size 3 i0 (.int .i64 0) 1 8 Try.underlying29 hi0 hz0 hz1 hz2 rfl (by decide) _ _ _ rfl (HO.out.alloc _) ⟨wr.heap.size, 0, none⟩ 1 1 [.int .i64 (k : Int)] rfl rfl (World.news_of_block (heap_alloc_new _ _)) (by intro u hu; simp at hu; subst hu; rfl) HM.out (by omega) (by simp; omega) ?_; intro v1 w1 hown1 hgrow hnil)
          | (refine HF.out.mono ?_; rintro e w2 ⟨rfl, hw⟩; subst hw; rw [b1]))
        have R : DevRel h w v1 (.int .i64 ((k : Int) + 1)) w1 := by
          refine ⟨k + 1, by omega, by simp, ((HB.out.alloc hsz _).grown hgrow (by simp; omega) (fun j hj => (HO.out.lt j hj).1)), ?_⟩
          rw [devX_next HX.out, if_pos H1.out, List.length_append]
          unfold ints
          rw [List.map_append]
          exact hown1
        have RR := Lib.hid R
        clear R hown1 hgrow hnil
        go_roundw
        case rel => exact RR.out
        case measure => simp [intOf]; omega
      · have b1 : (x.1.ino == 1) = false := by simp [h1]
        have H1 := Lib.hid h1
        clear h1
        go_wp2_with (refine HF.out.mono ?_; rintro e w2 ⟨rfl, hw⟩; subst hw; rw [b1])
        go_roundw
        case rel =>
          refine ⟨k + 1, by omega, by simp, HB.out, ?_⟩
          rw [devX_next HX.out, if_neg H1.out, List.append_nil]
          exact HO.out
        case measure => simp [intOf]; omega
    · go_wp2
      go_ret
      have hke : k = h.X.length := by omega
      have e : devX h.X k = devL h.M 0 := by rw [hke]; unfold devX Fsh.M; rw [List.take_length]
      exact ⟨_, rfl, by rw [← e]; exact HO.out, HB.out⟩
end Go.Proofs.Ytehieipiagpehaa
