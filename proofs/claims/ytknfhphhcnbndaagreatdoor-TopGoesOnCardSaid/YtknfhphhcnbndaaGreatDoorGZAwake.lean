/-
  The laws' awake: a run of realpath on a file system that has a root alone. Conditions: the table of classes lies as its text lays it; the library's variable holds some number.
-/
import Derived.Test.YtknfhphhcnbndaaGreatDoorGZReal
set_option linter.unusedVariables false
set_option linter.unusedSimpArgs false
namespace Go.Proofs.YtknfhphhcnbndaaGreatDoor.Z
open Go.Proofs.YtknfhphhcnbndaaGreatDoor.A
open Go.Proofs.YtknfhphhcnbndaaGreatDoor.B
open Go.RowKit

theorem real_new : RealOk V.newM := ⟨by decide, by decide, V.small_fewE' V.new_small (by decide), V.tgt_link V.tgt_new, V.ri_new, V.du_new⟩
theorem kind_operand {specs : List Sp} {a : ByteArray} (h : ∀ c r, listB a = c :: r → c ≠ 45) : kindA specs a = .operand := by
  unfold kindA kindL
  split
  · rfl
  · rfl
  · rename_i b c r e
    rw [if_pos (h b (c :: r) e)]
/-- Arguments of which none begins with a -: all are operands. -/
theorem read_operands {specs : List Sp} : ∀ xs : List ByteArray, (∀ x ∈ xs, ∀ c r, listB x = c :: r → c ≠ 45) → readM specs xs = .ok [] xs
  | [], _ => rfl
  | x :: r, h => by
    rw [read_cons, kind_operand (h x List.mem_cons_self), read_operands r fun y hy => h y (List.mem_cons_of_mem _ hy)]
    rfl
/-- What is told of one path that comes to the root. -/
theorem root_of {M : List V.Nd} {x : ByteArray} {s : ByteArray} {n er : Int} (h : OfO M 0 0 x s n er) (hr : V.RI M) (h0 : (V.walkW M 0 0 x true).err = 0) (hn : (V.walkW M 0 0 x true).pl.name = ⟨#[]⟩) (hi : (V.walkW M 0 0 x true).pl.id = 0) : s = ⟨#[47]⟩ ∧ er = 0 := by
  have hd : V.RealN M (V.walkW M 0 0 x true).pl [] := .inl ⟨hn, by rw [hi]; exact V.DirN.root⟩
  rcases h.1 with ⟨rfl, _, _, ns, h1, rfl, _⟩ | ⟨h1, _, h2⟩
  · rcases h1 with ⟨_, h1⟩ | ⟨h1, _⟩
    · rw [hi] at h1
      have := V.dirN_det h1 (V.DirN.root : V.DirN M 0 [])
      subst this
      exact ⟨rfl, rfl⟩
    · exact absurd hn h1
  · rcases h2 with h2 | h2
    · exact absurd h0 h2
    · exact absurd hd (h2 [])
theorem walk_slash {M : List V.Nd} (H : V.RI M) (u g : Int) : V.walkW M u g ⟨#[47]⟩ true = ⟨0, V.plOf 0, 0⟩ := by
  unfold V.walkW
  rw [if_neg (by decide), if_neg (by decide), show V.namesL ⟨#[47]⟩ = [] from rfl, V.goW_nil]
  unfold V.endW
  rw [if_neg (fun h => h.2 (V.kind_root H))]
  rfl
theorem walk_point {M : List V.Nd} (H : V.RI M) (g : Int) : V.walkW M 0 g ⟨#[47, 46]⟩ true = ⟨0, V.plOf 0, 0⟩ := by
  have hk : V.kindM M 0 = 2 := V.kind_root H
  have he : V.entW M 0 g 0 ⟨#[46]⟩ = .ok (V.plOf 0) := by
    unfold V.entW
    rw [if_pos hk, if_pos (V.may_root M g 0 hk), if_pos (by decide), if_pos (by rw [Lib.toList_data])]
  unfold V.walkW
  rw [if_neg (by decide), if_neg (by decide), show V.namesL ⟨#[47, 46]⟩ = [⟨#[46]⟩] from rfl, V.goW_cons, show (V.plOf 0).id = 0 from rfl, he]
  have ht : V.thruW M true (V.endsB ⟨#[47, 46]⟩) [] (V.plOf 0).id = false := by
    unfold V.thruW
    rw [show (V.plOf 0).id = 0 from rfl, hk]
    rfl
  simp only [ht]
  rw [if_neg (by decide), V.goW_nil]
  unfold V.endW
  rw [if_neg (fun h => by have h1 := h.1; exact absurd h1 (by decide))]
  rfl
theorem walk_up0 {M : List V.Nd} (H : V.RI M) (hu : V.overI M (V.upI M 0) = 0) (g : Int) : V.walkW M 0 g ⟨#[47, 46, 46]⟩ true = ⟨0, V.plOf 0, 0⟩ := by
  have hk : V.kindM M 0 = 2 := V.kind_root H
  have he : V.entW M 0 g 0 ⟨#[46, 46]⟩ = .ok (V.plOf 0) := by
    unfold V.entW
    rw [if_pos hk, if_pos (V.may_root M g 0 hk), if_pos (by decide), if_neg (by rw [Lib.toList_data]; decide), if_pos (by rw [Lib.toList_data]), hu]
  unfold V.walkW
  rw [if_neg (by decide), if_neg (by decide), show V.namesL ⟨#[47, 46, 46]⟩ = [⟨#[46, 46]⟩] from rfl, V.goW_cons, show (V.plOf 0).id = 0 from rfl, he]
  have ht : V.thruW M true (V.endsB ⟨#[47, 46, 46]⟩) [] (V.plOf 0).id = false := by
    unfold V.thruW
    rw [show (V.plOf 0).id = 0 from rfl, hk]
    rfl
  simp only [ht]
  rw [if_neg (by decide), V.goW_nil]
  unfold V.endW
  rw [if_neg (fun h => by have h1 := h.1; exact absurd h1 (by decide))]
  rfl
/-- One path that comes to the root: one row. -/
theorem real_root {M : List V.Nd} {qf : ByteArray → ByteArray} {x : ByteArray} {s : St} (hr : V.RI M) (hw : V.walkW M 0 0 x true = ⟨0, V.plOf 0, 0⟩) (h : RealW M 0 0 qf [x] s) : s = ⟨⟨#[47, 10]⟩, ⟨#[]⟩, 0⟩ := by
  obtain ⟨rs, h1, h2, rfl⟩ := h
  obtain ⟨r, rfl⟩ : ∃ r, rs = [r] := List.length_eq_one_iff.1 h1
  obtain ⟨n, h3⟩ := h2 0 x r rfl rfl
  obtain ⟨e1, e2⟩ := root_of h3 hr (by rw [hw]) (by rw [hw]; rfl) (by rw [hw]; rfl)
  obtain ⟨t, er⟩ := r
  dsimp only at e1 e2
  subst e1 e2
  rfl
theorem two_txt {w : World} {s t : ByteArray} : TxtL (w.alloc (.cells #[.string s, .string t] 9)) (some ⟨w.heap.size, 0, none⟩) [s, t] := .inr ⟨w.heap.size, 0, rfl, by simp, fun i x hx j v hj => by
  obtain rfl : j = 0 := by
    have := (List.getElem?_eq_some_iff.1 hj).1
    simp [txC] at this
    exact this
  obtain rfl : v = .string x := by simpa [txC] using hj.symm
  rw [cell_of_row _ _ _ _ _ _ (heap_alloc_new _ _)]
  match i, hx with
  | 0, hx => simp at hx; subst hx; rfl
  | 1, hx => simp at hx; subst hx; rfl
  | i + 2, hx => simp at hx⟩
/-- A run of realpath with one path that comes to the root. -/
theorem rootRun_any {M : List V.Nd} {p : Nat} (x : ByteArray) (v0 w : World) (hf : V.Has v0 p M w) (ht : P.Tab w) (hm : MaxT w) (hO : RealOk M) (hx : x.size ≤ 1000) (hx2 : ∀ c r, listB x = c :: r → c ≠ 45) (hw : V.walkW M 0 0 x true = ⟨0, V.plOf 0, 0⟩) :
    Calls Tryz.prog 23 #[.pointer (some ⟨p, 0, none⟩), .agg #[.int .i64 0, .int .i64 0], .agg #[.int .i64 0, .int .i64 0, .int .i64 0], .slice (some ⟨w.heap.size, 0, none⟩) 2 2] (w.alloc (.cells #[.string nmR, .string x] 9)) fun e w' => e = .returned (.tuple #[.string ⟨#[47, 10]⟩, .string ⟨#[]⟩, .int .i64 0]) ∧ Below w.heap.size w w' := by
  have hb : Below w.heap.size w (w.alloc (.cells #[.string nmR, .string x] 9)) := (Below.refl _ _).alloc (Nat.le_refl _) _
  refine (realRun_any (u := 0) (gi := 0) (wd := 0) (now := 0) (off := 0) [x] [x] _ 2 v0 _ (hf.keep hb) (ht.keep hb) (hm.keep hb) hO two_txt ⟨Nat.le_refl 2, by unfold maxLen; omega, fun h => by cases h⟩ (by simp) (fun y hy => by simp at hy; subst hy; exact hx) (read_operands [x] (fun y hy => by simp at hy; subst hy; exact hx2)) (by simp) (by simp) (fun y hy => by simp at hy; subst hy; exact hx) (fun s => s) ?_).mono ?_
  · rintro ⟨y, hy, s, n, er, h1, h2⟩
    obtain rfl : y = x := by simpa using hy
    exact absurd (root_of h1 hO.ri (by rw [hw]) (by rw [hw]; rfl) (by rw [hw]; rfl)).2 h2
  · rintro e w' ⟨s, rfl, h1, h2⟩
    obtain rfl := real_root hO.ri hw h1
    exact ⟨rfl, hb.trans (h2.mono hb.size)⟩
set_option maxRecDepth 100000 in
theorem awakeTop_any (w : World) (ht : P.Tab w) (hm : MaxT w) :
    Calls Tryz.prog 28 #[] w fun e w' => e = .returned (.bool true) ∧ Below w.heap.size w w' := by
  have HN := Lib.hid (V.new_any w)
  have HT := Lib.hid (fun (W : World) p (h : V.Has w p V.newM W) => rootRun_any ⟨#[47, 46, 46]⟩ w W h (ht.keep h.below) (hm.keep h.below) real_new (by decide) (fun c r h => by cases h; decide) (walk_up0 V.ri_new (by decide) 0))
  unfold nmR at HT
  clear ht hm
  go_enter Tryz.func28, Tryz.ntmps28
  go_wp2_with (first
    | (go_at_call 34; refine HN.out.mono ?_; rintro e w2 ⟨p, rfl, H2⟩; have HH2 := Lib.hid H2; clear H2)
    | (go_at_call 23; refine (HT.out _ _ HH2.out).mono ?_; rintro e w3 ⟨rfl, hb⟩; have HB3 := Lib.hid (HH2.out.below.trans (hb.mono HH2.out.below.size)); clear hb))
  go_ret
  exact ⟨rfl, HB3.out⟩
end Go.Proofs.YtknfhphhcnbndaaGreatDoor.Z
