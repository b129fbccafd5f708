/-
  What slices.Reverse and strings.Join return of a slice of strings that the call has made. Conditions: the slice's cells lie in memory, few and short.
  What real.Dir returns: a directory's real path. Conditions: the file system lies in memory; what is asked for is covered by nothing.
  What real.Of returns: the real path of the place that the model's walk comes to. Conditions: the file system lies in memory.
-/
import Derived.Test.YtknfhphhcnbndaaGreatDoorGRRealM
import Derived.Lib.OwnBridge
import Derived.Deep.LoopGhost
import Derived.Test.YtknfhphhcnbndaaGreatDoorGHWalk
set_option linter.unusedSimpArgs false
set_option linter.unusedVariables false
namespace Go.Proofs.YtknfhphhcnbndaaGreatDoor.V
open Go.Proofs.YtknfhphhcnbndaaGreatDoor.P
open Go.RowKit Go.Shelf

theorem strs_enc (ns : List ByteArray) : (ns.map fun n => n.data.toList).map encStr = strs ns := by
  unfold strs
  rw [List.map_map]
  congr 1
theorem rev_any (v : Value) (ns : List ByteArray) (b : Nat) (w : World) (H : w.ownsRow b 9 1 v ns.length (strs ns)) (hl : ns.length ≤ 1000000) :
    Calls Tryz.prog 192 #[v] w fun e w' => e = .returned (.tuple #[]) ∧ w'.ownsRow b 9 1 v ns.reverse.length (strs ns.reverse) ∧ ∀ w0, w0.heap.size ≤ b → Below w0.heap.size w0 w → Below w0.heap.size w0 w' := by
  by_cases hv : v = .slice none 0 0
  · subst hv
    have h0 : ns = [] := by
      cases ns with
      | nil => rfl
      | cons x r =>
        obtain ⟨g, cap, h, _⟩ := owns_some H (by simp)
        cases h
    subst h0
    refine (Tryz.slices_Reverse_string_empty none 0 w).mono ?_
    rintro e w' ⟨rfl, rfl⟩
    exact ⟨rfl, H, fun _ _ h => h⟩
  · have H' : w.ownsRow b 9 1 v ns.length ((ns.map fun n => n.data.toList).map encStr) := by rw [strs_enc]; exact H
    obtain ⟨g, cap, rfl, hg, _, _, _, hlen, hh⟩ := Lib.holds_of_ownsRow H' hv
    have hle : (ns.map fun n => n.data.toList).length = ns.length := List.length_map ..
    have := Tryz.slices_Reverse_string g 0 cap (ns.map fun n => n.data.toList) w hh (by omega)
    rw [hle] at this
    refine this.mono ?_
    rintro e w' ⟨rfl, q, rfl⟩
    have ho := Lib.ownsRow_putRow (q := q) (k := ns.length) (ys := (ns.map fun n => n.data.toList).reverse) H' (by simp) (Nat.le_refl _)
    have e : ((ns.map fun n => n.data.toList).reverse.take ns.length).map encStr = strs ns.reverse := by
      rw [List.take_of_length_le (by simp), ← List.map_reverse, strs_enc]
    rw [e] at ho
    refine ⟨rfl, ?_, fun w0 hb hw => Lib.below_putRow hw (Nat.le_trans hb hg)⟩
    rw [List.length_reverse]
    exact ho
theorem join_any (v : Value) (ns : List ByteArray) (b : Nat) (w : World) (H : w.ownsRow b 9 1 v ns.length (strs ns)) (hl : ns.length ≤ 1000000) (hj : (Lib.join (ns.map fun n => n.data.toList) [47]).length ≤ 256000000) :
    Calls Tryz.prog 102 #[v, .string ⟨#[47]⟩] w fun e w' => e = .returned (.string ⟨(Lib.join (ns.map fun n => n.data.toList) [47]).toArray⟩) ∧ Below w.heap.size w w' := by
  by_cases hv : ns = []
  · subst hv
    obtain ⟨o, c, rfl⟩ := owns_form H
    refine (Tryz.strings_Join_none o c ⟨#[47]⟩ w).mono ?_
    rintro e w' ⟨rfl, rfl⟩
    exact ⟨rfl, Below.refl _ _⟩
  · obtain ⟨g, cap, rfl, hc, _⟩ := owns_some H (List.length_pos_iff.2 hv)
    refine Tryz.strings_Join g 0 cap ns ⟨#[47]⟩ w (fun j x hx => ?_) ?_ (by omega) hc (by show (Lib.join _ [47]).length ≤ _; omega)
    · rw [Nat.zero_add]
      refine owns_cell H ?_
      unfold strs
      rw [List.getElem?_map, hx]
      rfl
    · exact (H.lt g rfl).2
end Go.Proofs.YtknfhphhcnbndaaGreatDoor.V

namespace Go.Proofs.YtknfhphhcnbndaaGreatDoor.V
open Go.Proofs.YtknfhphhcnbndaaGreatDoor.P
open Go.RowKit

def DirR (M : List Nd) (id : Int) (s : ByteArray) (er : Int) : Prop := (er = 0 ∧ ∃ ns, DirN M id ns ∧ s = pathOf ns ∧ s.size ≤ 256 * M.length + 1) ∨ (er ≠ 0 ∧ s = ⟨#[]⟩ ∧ ∀ ns, ¬ DirN M id ns)
/-- What the way upwards holds. -/
def UpRel (M : List Nd) (id : Int) (w : World) (g : Nat) (v8 v9 : Value) (wr : World) : Prop :=
  ∃ (i : Int) (rev : List ByteArray), v9 = .int .i64 i ∧ Hid (0 ≤ i ∧ i.toNat = g) ∧ Hid (DirAt M id i rev) ∧ Hid (kindM M i = 2 ∧ overI M i = i ∧ (∀ n ∈ rev, goodB n = true) ∧ rev.length + g ≤ M.length) ∧ Hid (wr.ownsRow w.heap.size 9 1 v8 rev.length (strs rev)) ∧ Hid (Below w.heap.size w wr)
/-- What the way through the entries holds. -/
def EntRel (M : List Nd) (i : Int) (l : List (ByteArray × Int)) (x8 : Value) (w7 : World) (g : Nat) (v8 v9 v43 : Value) (wr : World) : Prop :=
  ∃ k : Nat, v8 = x8 ∧ v9 = .int .i64 i ∧ v43 = .int .i64 (k : Int) ∧ k + g = l.length ∧ Hid (firstN M i l = firstN M i (l.drop k)) ∧ Hid (Below w7.heap.size w7 wr)
theorem owns_to {w w' : World} {b : Nat} {e : TypeId} {size n : Nat} {v : Value} {xs : List Value} (h : w.ownsRow b e size v n xs) (hb : Below w.heap.size w w') : w'.ownsRow b e size v n xs := owns_at h fun k hk => hb.block k (h.lt k hk).2

set_option maxRecDepth 100000 in
set_option maxHeartbeats 8000000 in
theorem dirE_any {M : List Nd} {p : Nat} (id : Int) (v0 w : World) (hf : Has v0 p M w) (hn : 0 < M.length) (hM : M.length ≤ 1000000) (hE : FewE M) (hR : RI M) (hD : DU M) (ho : overI M id = id) :
    Calls Tryz.prog 140 #[.pointer (some ⟨p, 0, none⟩), .int .i64 id] w fun e w' => ∃ s er, e = .returned (.tuple #[.string s, .int .i64 er]) ∧ (DirR M id s er ∧ (er ≠ 0 → DirEr M id er)) ∧ Below w.heap.size w w' := by
  obtain ⟨i0, hi0, hz0, hz1, hz2⟩ := info_parts infoStr
  have HF := Lib.hid (fun W (hb : Below w.heap.size w W) => hf.keep hb)
  have HN := Lib.hid (has_nodeI id hf hn)
  rw [nodeV_nv, known_nv] at HN
  have HK := Lib.hid (show kindM M id = (nvAt M id).kind from rfl)
  have HR := Lib.hid hR
  have HD := Lib.hid hD
  have HE := Lib.hid hE
  have HO0 := Lib.hid ho
  clear hf ho hR hD hE
  by_cases hk : kindM M id = 2
  · obtain ⟨hid0, hid1⟩ := kind_lt hk
    have HK2 := Lib.hid hk
    have dk : ((nvAt M id).kind != 2) = false := by rw [← HK.out, hk]; rfl
    clear hk
    go_enter Tryz.func140, Tryz.ntmps140
    go_wp2
    go_step3
    go_wp2_with (go_at_call 30; refine HN.out.mono ?_; rintro e w2 ⟨rfl, hb⟩; have HB := Lib.hid hb; clear hb)
    go_step3
    go_wp2
    go_loopg [8, 9] id.toNat (UpRel M id w)
    case atStart => exact ⟨id, [], rfl, Lib.hid ⟨hid0, rfl⟩, Lib.hid (dirAt_self M id), Lib.hid ⟨HK2.out, HO0.out, (by intro n h; cases h), by simp; omega⟩, Lib.hid (World.ownsRow_nil _ _ _ _), Lib.hid (HB.out.alloc HB.out.size _)⟩
    case round =>
      obtain ⟨i, rev, rfl, HI, HA, HS, HO, HBr⟩ := hrel
      clear HN HB dk
      by_cases hi : i = 0
      · have d0 : (i != 0) = false := by rw [hi]; rfl
        have hgd : ∀ n ∈ rev.reverse, goodB n = true := fun n h => HS.out.2.2.1 n (List.mem_reverse.1 h)
        have hrl : rev.length ≤ M.length := by have := HS.out.2.2.2; omega
        have hjl : (Lib.join (rev.reverse.map fun n => n.data.toList) [47]).length ≤ 256000000 := by
          have := join_len hgd
          rw [List.length_reverse] at this
          omega
        have HRv := Lib.hid (rev_any u8 rev w.heap.size wr HO.out (by omega))
        have HJn := Lib.hid (fun (W : World) (h : W.ownsRow w.heap.size 9 1 u8 rev.reverse.length (strs rev.reverse)) => join_any u8 rev.reverse _ W h (by rw [List.length_reverse]; omega) hjl)
        have hJz : (⟨(Lib.join (rev.reverse.map fun n => n.data.toList) [47]).toArray⟩ : ByteArray).size ≤ 256000000 := by
          rw [← size_list]
          simpa using hjl
        have HP := Lib.hid (path_join rev.reverse)
        have HZ := Lib.hid (show (pathOf rev.reverse).size ≤ 256 * M.length + 1 from by
          have := path_len hgd
          rw [List.length_reverse] at this
          omega)
        clear hjl hgd
        obtain ⟨J, hJ⟩ : ∃ J, (⟨(Lib.join (rev.reverse.map fun n => n.data.toList) [47]).toArray⟩ : ByteArray) = J := ⟨_, rfl⟩
        simp only [hJ] at HJn HP hJz
        clear hJ
        have HI0 := Lib.hid hi
        clear hi
        have hone : (⟨#[47]⟩ : ByteArray).size = 1 := rfl
        go_wp2_with (first
          | (go_at_call 192; refine HRv.out.mono ?_; rintro e w3 ⟨rfl, ho3, hb3⟩; have HO3 := Lib.hid ho3; have HB3 := Lib.hid (hb3 w (Nat.le_refl _) HBr.out); clear ho3 hb3)
          | (go_at_call 102; refine (HJn.out _ HO3.out).mono ?_; rintro e w4 ⟨rfl, hb4⟩; have HB4 := Lib.hid (below_two HB3.out hb4); clear hb4))
        try rw [Exit.noGoto_ret]
        go_ret2
        have hA := HA.out
        rw [HI0.out] at hA
        exact ⟨_, _, rfl, ⟨.inl ⟨rfl, rev.reverse, dirAt_end hA, HP.out, (by rw [HP.out]; exact HZ.out)⟩, fun h => absurd rfl h⟩, HB4.out⟩
      · have d0 : (i != 0) = true := by simpa using hi
        obtain ⟨a, ha⟩ : ∃ a, overI M (upI M i) = a := ⟨_, rfl⟩
        have HAe := Lib.hid ha
        have HI0 := Lib.hid hi
        have HUp := Lib.hid (has_up i (HF.out wr HBr.out) hn)
        have HOv := Lib.hid (has_over (upI M i) (HF.out wr HBr.out) hn)
        rw [ha] at HOv
        have HL := Lib.hid (has_list a (HF.out wr HBr.out) hn HE.out)
        clear ha hi
        by_cases h0 : listE M a = 0
        · have HL0 := Lib.hid h0
          rw [h0] at HL
          have hll : (listL M a).length ≤ 1000000 := by
            unfold listL
            cases hat : atM M a with
            | none => exact Nat.zero_le _
            | some n =>
              dsimp only
              split
              · split
                · exact Nat.zero_le _
                · obtain ⟨k, _, hk⟩ := atM_some hat
                  exact HE.out n (List.mem_of_getElem? hk)
              · exact Nat.zero_le _
          obtain ⟨l, hle⟩ : ∃ l, listL M a = l := ⟨_, rfl⟩
          have HLe := Lib.hid hle
          rw [hle] at HL hll
          clear h0 hle
          go_wp2_with (first
            | (go_at_call 189; refine HUp.out.mono ?_; rintro e w3 ⟨rfl, hw⟩; subst hw)
            | (go_at_call 59; refine HOv.out.mono ?_; rintro e w4 ⟨rfl, hw⟩; subst hw)
            | (go_at_call 167; refine HL.out.mono ?_; rintro e w5 ⟨lx, rfl, ho5, hb5⟩; obtain ⟨o5, c5, rfl⟩ := owns_form ho5; have HO5 := Lib.hid ho5; have HB5 := Lib.hid hb5; clear ho5 hb5))
          have HG := Lib.hid (show ∃ G, G = gk from ⟨_, rfl⟩)
          go_loopg [8, 9, 43] l.length (EntRel M i l u8 w5)
          case atStart => exact ⟨0, rfl, rfl, rfl, by omega, Lib.hid rfl, Lib.hid (Below.refl _ _)⟩
          case round =>
            obtain ⟨k, rfl, rfl, rfl, hkg, HFi, HB7⟩ := hrel
            have HBw := Lib.hid (below_two HBr.out (below_two HB5.out HB7.out))
            by_cases hlt : k < l.length
            · have e1 : decide ((k : Int) < (l.length : Int)) = true := decide_eq_true (by omega)
              obtain ⟨x, hx⟩ : ∃ x, l[k]? = some x := ⟨_, List.getElem?_eq_getElem hlt⟩
              have HO7 := Lib.hid (owns_to HO5.out HB7.out)
              obtain ⟨gg, cg, e2, _, _⟩ := owns_some HO7.out (by omega)
              simp only [Value.slice.injEq] at e2
              obtain ⟨rfl, _, rfl⟩ := e2
              have a0 : wr.cell? ⟨gg, k * 2, none⟩ = some (.string x.1) := owns_cell HO7.out (entCells_get l k x hx).1
              have a1 : wr.cell? ⟨gg, k * 2 + 1, none⟩ = some (.int .i64 x.2) := owns_cell HO7.out (entCells_get l k x hx).2
              have HFx := Lib.hid (first_drop hx HFi.out)
              clear hx HFi
              go_upto_region 14 with fail
              have HXx := Lib.hid (heap_alloc_new wr (.cells #[.string x.1, .int .i64 x.2] 177))
              have HBx := Lib.hid (show Below wr.heap.size wr (wr.alloc (.cells #[.string x.1, .int .i64 x.2] 177)) from (Below.refl _ _).alloc (Nat.le_refl _) _)
              generalize wr.alloc (.cells #[.string x.1, .int .i64 x.2] 177) = wx at HXx HBx ⊢
              have c0 : wx.cell? ⟨wr.heap.size, 0, none⟩ = some (.string x.1) := by rw [cell_of_row _ _ _ _ _ _ HXx.out]; rfl
              have c1 : wx.cell? ⟨wr.heap.size, 1, none⟩ = some (.int .i64 x.2) := by rw [cell_of_row _ _ _ _ _ _ HXx.out]; rfl
              have HBxw := Lib.hid (below_two HBw.out HBx.out)
              have HOn := Lib.hid (owns_to (owns_to (owns_to HO.out HB5.out) HB7.out) HBx.out)
              have HOx := Lib.hid (has_over x.2 (HF.out wx HBxw.out) hn)
              clear a0 a1
              generalize wr.heap.size = bx at c0 c1 HXx ⊢
              by_cases hit : overI M x.2 = i
              · rw [hit] at HOx
                have HF1 := Lib.hid (show firstN M i l = some x from by rw [HFx.out, if_pos hit])
                have HFy := Lib.hid (show firstN M i (listL M (overI M (upI M i))) = some (x.1, x.2) from by rw [HAe.out, HLe.out, HF1.out])
                obtain ⟨s0, s1, s2⟩ := step_lt HR.out HS.out.1 HFy.out
                rw [HAe.out] at s0 s1
                have HM := Lib.hid (show rev.length + 1 ≤ maxLen from by unfold maxLen; have := HS.out.2.2.2; omega)
                have hrl : rev.length ≤ 1000000 := by have := HS.out.2.2.2; omega
                have HA1 := Lib.hid (show DirAt M id a (rev ++ [x.1]) from by
                  have := dirAt_step HA.out HI0.out HS.out.1 (by rw [HAe.out]; exact HL0.out) HFy.out
                  rwa [HAe.out] at this)
                have HS1 := Lib.hid (show kindM M a = 2 ∧ overI M a = a ∧ (∀ n ∈ rev ++ [x.1], goodB n = true) ∧ (rev ++ [x.1]).length + a.toNat ≤ M.length from by
                  obtain ⟨q1, q2, q3, q4⟩ := HS.out
                  obtain ⟨r1, r2⟩ := HI.out
                  refine ⟨by rw [← HAe.out]; exact du_up HD.out q1, by rw [← HAe.out]; exact over_over HR.out _, fun n h => ?_, by rw [List.length_append, List.length_singleton]; omega⟩
                  rcases List.mem_append.1 h with z | z
                  · exact q3 n z
                  · obtain rfl : n = x.1 := by simpa using z
                    exact s2)
                have HI1 := Lib.hid (show (0 ≤ a ∧ a.toNat = a.toNat) ∧ a.toNat < i.toNat from ⟨⟨s0, rfl⟩, by omega⟩)
                clear s0 s1 s2 HFx hit
                have hwz : w.heap.size ≤ wx.heap.size := HBxw.out.size
                by_cases he : x.2 = i
                · have d1 : (x.2 == i) = true := beq_iff_eq.2 he
                  clear he HOx
                  go_upto_region 15 with fail
                  go_wp2_with (at_builtin; go_loud (refine wpList_append_own _ rfl (.tmp 59) (.tmp 62) 40 rfl w.heap.size 9 i0 (.string ⟨#[]⟩) 1 16 Tryz.underlying40 hi0 hz0 hz1 hz2 rfl (by decide) _ _ _ rfl (HOn.out.alloc _) ⟨wx.heap.size, 0, none⟩ 1 1 [.string x.1] rfl rfl (World.news_of_block (heap_alloc_new _ _)) (by intro u hu; simp at hu; subst hu; rfl) HM.out (by omega) (by simp; omega) ?_; intro v1 w1 hown1 hgrow hnil))
                  have HO1 := Lib.hid (show w1.ownsRow w.heap.size 9 1 v1 (rev ++ [x.1]).length (strs (rev ++ [x.1])) from by
                    unfold strs
                    rw [List.length_append, List.map_append]
                    exact hown1)
                  have HB1 := Lib.hid ((HBxw.out.alloc HBxw.out.size _).grown hgrow (by simp; have := HBxw.out.size; omega) (fun j hj => (HOn.out.lt j hj).1))
                  clear hown1 hgrow hnil
                  go_roundg a.toNat
                  case measure => have := HI.out; have := HI1.out; omega
                  case rel => exact ⟨a, rev ++ [x.1], rfl, Lib.hid ⟨HI1.out.1.1, rfl⟩, HA1, HS1, HO1, HB1⟩
                · have d1 : (x.2 == i) = false := beq_eq_false_iff_ne.2 he
                  clear he
                  go_upto_region 15 with (go_at_call 59; refine HOx.out.mono ?_; rintro e w8 ⟨rfl, hw⟩; subst hw)
                  go_wp2_with (at_builtin; go_loud (refine wpList_append_own _ rfl (.tmp 59) (.tmp 62) 40 rfl w.heap.size 9 i0 (.string ⟨#[]⟩) 1 16 Tryz.underlying40 hi0 hz0 hz1 hz2 rfl (by decide) _ _ _ rfl (HOn.out.alloc _) ⟨wx.heap.size, 0, none⟩ 1 1 [.string x.1] rfl rfl (World.news_of_block (heap_alloc_new _ _)) (by intro u hu; simp at hu; subst hu; rfl) HM.out (by omega) (by simp; omega) ?_; intro v1 w1 hown1 hgrow hnil))
                  have HO1 := Lib.hid (show w1.ownsRow w.heap.size 9 1 v1 (rev ++ [x.1]).length (strs (rev ++ [x.1])) from by
                    unfold strs
                    rw [List.length_append, List.map_append]
                    exact hown1)
                  have HB1 := Lib.hid ((HBxw.out.alloc HBxw.out.size _).grown hgrow (by simp; have := HBxw.out.size; omega) (fun j hj => (HOn.out.lt j hj).1))
                  clear hown1 hgrow hnil
                  go_roundg a.toNat
                  case measure => have := HI.out; have := HI1.out; omega
                  case rel => exact ⟨a, rev ++ [x.1], rfl, Lib.hid ⟨HI1.out.1.1, rfl⟩, HA1, HS1, HO1, HB1⟩
              · have HF2 := Lib.hid (show firstN M i l = firstN M i (l.drop (k + 1)) from by rw [HFx.out, if_neg hit])
                have d1 : (x.2 == i) = false := beq_eq_false_iff_ne.2 (fun q => hit (by rw [q]; exact HS.out.2.1))
                have d2 : (overI M x.2 == i) = false := beq_eq_false_iff_ne.2 hit
                clear HFx hit
                go_wp2_with (go_at_call 59; refine HOx.out.mono ?_; rintro e w8 ⟨rfl, hw⟩; subst hw)
                go_roundg (l.length - (k + 1))
                case measure => omega
                case rel => exact ⟨k + 1, rfl, rfl, by simp, by omega, HF2, Lib.hid (below_two HB7.out HBx.out)⟩
            · have e1 : decide ((k : Int) < (l.length : Int)) = false := decide_eq_false (by omega)
              have HNf := Lib.hid (show firstN M i (listL M (overI M (upI M i))) = none from by rw [HAe.out, HLe.out, HFi.out, List.drop_of_length_le (by omega)]; rfl)
              have HNo := Lib.hid (dirAt_no HA.out HI0.out (.inr HNf.out))
              go_wp2_with fail
              try rw [Exit.noGoto_ret]
              go_ret2
              exact ⟨_, _, rfl, ⟨.inr ⟨by decide, rfl, HNo.out⟩, fun _ => HA.out.2.2 _ (.lost HI0.out HS.out.1 (by rw [HAe.out]; exact HL0.out) HNf.out)⟩, HBw.out⟩
        · have HNo := Lib.hid (dirAt_no HA.out HI0.out (.inl (by rw [HAe.out]; exact h0)))
          have HE0 := Lib.hid h0
          have e0 : (listE M a != 0) = true := by simpa using h0
          clear h0
          go_wp2_with (first
            | (go_at_call 189; refine HUp.out.mono ?_; rintro e w3 ⟨rfl, hw⟩; subst hw)
            | (go_at_call 59; refine HOv.out.mono ?_; rintro e w4 ⟨rfl, hw⟩; subst hw)
            | (go_at_call 167; refine HL.out.mono ?_; rintro e w5 ⟨lx, rfl, ho5, hb5⟩; have HB5 := Lib.hid hb5; clear ho5 hb5))
          try rw [Exit.noGoto_ret]
          go_ret2
          exact ⟨_, _, rfl, ⟨.inr ⟨HE0.out, rfl, HNo.out⟩, fun _ => HA.out.2.2 _ (.list HI0.out HS.out.1 (by rw [HAe.out]) HE0.out)⟩, below_two HBr.out HB5.out⟩
  · have HK2 := Lib.hid (show ∀ ns, ¬ DirN M id ns from fun ns h => hk (dirN_kind HR.out h))
    have HKd := Lib.hid (show DirEr M id 3 from .kind hk)
    have dk : ((nvAt M id).kind != 2) = true := by rw [← HK.out]; simpa using hk
    clear hk
    go_enter Tryz.func140, Tryz.ntmps140
    go_wp2
    go_step3
    go_wp2_with (go_at_call 30; refine HN.out.mono ?_; rintro e w2 ⟨rfl, hb⟩; have HB := Lib.hid hb; clear hb)
    try rw [Exit.noGoto_ret]
    go_ret2
    exact ⟨_, _, rfl, ⟨.inr ⟨by decide, rfl, HK2.out⟩, fun _ => HKd.out⟩, HB.out.alloc HB.out.size _⟩
end Go.Proofs.YtknfhphhcnbndaaGreatDoor.V

namespace Go.Proofs.YtknfhphhcnbndaaGreatDoor.V
open Go.Proofs.YtknfhphhcnbndaaGreatDoor.P
open Go.RowKit Go.Shelf

set_option maxRecDepth 100000 in
theorem rjoin_any (ns : List ByteArray) (nm : ByteArray) (w : World) (hg : ∀ n ∈ ns, goodB n = true) (hs : (pathOf ns).size ≤ 300000000) (hm : nm.size ≤ 300) :
    Calls Tryz.prog 141 #[.string (pathOf ns), .string nm] w fun e w' => e = .returned (.string (pathOf (ns ++ [nm]))) ∧ w' = w := by
  have HT := Lib.hid (Tryz.strings_TrimSuffix (pathOf ns) ⟨#[47]⟩ w (by omega))
  have hlt : (⟨(Lib.trimSuffix (pathOf ns).data.toList [47]).toArray⟩ : ByteArray).size ≤ 300000000 := by
    rw [← size_list]
    unfold Lib.trimSuffix
    have h1 : (pathOf ns).data.toList.length = (pathOf ns).size := size_list _
    split
    · simp only [List.length_take]
      omega
    · show (pathOf ns).data.toList.length ≤ _
      omega
  have HP := Lib.hid (path_name hg nm)
  have e1 : (⟨#[47]⟩ : ByteArray).size = 1 := rfl
  obtain ⟨J, hJ⟩ : ∃ J, (⟨(Lib.trimSuffix (pathOf ns).data.toList [47]).toArray⟩ : ByteArray) = J := ⟨_, rfl⟩
  rw [hJ] at HT HP hlt
  clear hJ
  go_enter Tryz.func141, Tryz.ntmps141
  go_wp2_with (go_at_call 193; refine HT.out.mono ?_; rintro e w3 ⟨rfl, hw⟩; subst hw)
  go_ret
  exact ⟨by rw [HP.out]; rfl, rfl⟩

def PlR (M : List Nd) (q : Pl) (s : ByteArray) (er : Int) : Prop := (er = 0 ∧ ∃ ns, RealN M q ns ∧ s = pathOf ns ∧ s.size ≤ 256 * M.length + 600) ∨ (er ≠ 0 ∧ s = ⟨#[]⟩ ∧ ∀ ns, ¬ RealN M q ns)
set_option maxRecDepth 100000 in
set_option maxHeartbeats 4000000 in
theorem placeE_any {M : List Nd} {p : Nat} (q : Pl) (h : Int) (v0 w : World) (hf : Has v0 p M w) (hn : 0 < M.length) (hM : M.length ≤ 1000000) (hE : FewE M) (hR : RI M) (hD : DU M) (hp : PlOk M q) :
    Calls Tryz.prog 83 #[.pointer (some ⟨p, 0, none⟩), .agg #[.int .i64 q.id, .int .i64 q.dir, .string q.name, .int .i64 h]] w fun e w' => ∃ s er, e = .returned (.tuple #[.string s, .int .i64 er]) ∧ (PlR M q s er ∧ (er ≠ 0 → DirEr M q.dir er)) ∧ Below w.heap.size w w' := by
  have ho : overI M q.dir = q.dir := by
    rcases hp.2 with ⟨_, h1, _⟩ | ⟨h1, _⟩
    · rw [h1]; exact hp.1
    · exact h1
  have HDr := Lib.hid (fun W (hb : Below w.heap.size w W) => dirE_any q.dir v0 W (hf.keep hb) hn hM hE hR hD ho)
  have HR := Lib.hid hR
  have HP := Lib.hid hp
  clear hf hR hD hE hp ho
  go_enter Tryz.func83, Tryz.ntmps83
  go_upto_region 1 with fail
  have HX := Lib.hid (heap_alloc_new w (.cells #[.int .i64 q.id, .int .i64 q.dir, .string q.name, .int .i64 h] 167))
  have HB := Lib.hid (show Below w.heap.size w (w.alloc (.cells #[.int .i64 q.id, .int .i64 q.dir, .string q.name, .int .i64 h] 167)) from (Below.refl _ _).alloc (Nat.le_refl _) _)
  generalize w.alloc (.cells #[.int .i64 q.id, .int .i64 q.dir, .string q.name, .int .i64 h] 167) = w1 at HX HB ⊢
  have HD1 := Lib.hid (HDr.out w1 HB.out)
  have c1 : w1.cell? ⟨w.heap.size, 1, none⟩ = some (.int .i64 q.dir) := by rw [cell_of_row _ _ _ _ _ _ HX.out]; rfl
  clear HDr
  go_upto_region 2 with (go_at_call 140; refine HD1.out.mono ?_; rintro e w2 ⟨s, er, rfl, hr, hb⟩; have HDR := Lib.hid hr; have HB2 := Lib.hid hb; clear hr hb)
  have c2 : w2.cell? ⟨w.heap.size, 2, none⟩ = some (.string q.name) := by rw [cell_of_row _ _ _ _ _ _ ((HB2.out.block _ (heap_lt HX.out)).trans HX.out)]; rfl
  clear c1 HD1
  have HBa := Lib.hid (below_two HB.out HB2.out)
  have HEr := Lib.hid HDR.out.2
  rcases HDR.out.1 with ⟨rfl, ns, hd, rfl, hz⟩ | ⟨h0, rfl, hno⟩
  · clear HEr
    obtain ⟨PN, hPN⟩ : ∃ P, pathOf ns = P := ⟨_, rfl⟩
    have HG := Lib.hid (dirN_good HR.out hd)
    have HDN := Lib.hid hd
    by_cases hnm : q.name = ⟨#[]⟩
    · have HNm := Lib.hid hnm
      rw [hnm] at c2
      have HRl := Lib.hid (show RealN M q ns from .inl ⟨hnm, by
        rcases HP.out.2 with ⟨_, h1, _⟩ | ⟨_, _, _, hg, _⟩
        · rw [← h1]; exact hd
        · exact absurd hnm (good_name hg)⟩)
      have HPN := Lib.hid hPN
      have HZ := Lib.hid hz
      rw [hPN] at HZ ⊢
      clear hPN hd hz hnm
      go_wp2_with fail
      go_ret2
      exact ⟨_, _, rfl, ⟨.inl ⟨rfl, ns, HRl.out, HPN.out.symm, by have := HZ.out; omega⟩, fun h => absurd rfl h⟩, HBa.out⟩
    · have hgn : goodB q.name = true := by
        rcases HP.out.2 with ⟨h1, _⟩ | ⟨_, _, _, hg, _⟩
        · exact absurd h1 hnm
        · exact hg
      have hms := (goodB_parts hgn).2.1
      have hm1 := (goodB_parts hgn).1
      have HRl := Lib.hid (show RealN M q (ns ++ [q.name]) from .inr ⟨hnm, ns, hd, rfl⟩)
      have hns := dirN_good HR.out hd
      have HJ := Lib.hid (rjoin_any ns q.name w2 hns (by omega) (by omega))
      have HZ := Lib.hid (show (pathOf (ns ++ [q.name])).size ≤ 256 * M.length + 600 from by
        rw [← size_list, path_flat (by simp), mkB_list, flatN_app, List.length_append]
        have e3 : flatN [q.name] = 47 :: q.name.data.toList := by rw [flatN, flatN, List.append_nil]
        rw [e3, List.length_cons, size_list]
        by_cases h0 : ns = []
        · subst h0
          show 0 + _ ≤ _
          omega
        · have : (flatN ns).length = (pathOf ns).size := by rw [← size_list, path_flat h0, mkB_list]
          omega)
      have e1 : q.name.data ≠ #[] := fun z => hnm (ByteArray.ext z)
      have e2 : q.name.toList ≠ [] := fun z => e1 (by rw [Lib.toList_data] at z; simpa using z)
      have e3 : q.name.toList.isEmpty = false := by cases hl : q.name.toList with | nil => exact absurd hl e2 | cons _ _ => rfl
      have e4 : (q.name.toList == []) = false := by simpa using e2
      rw [hPN] at HJ ⊢
      clear hPN hd hz hns hnm hgn
      go_wp2_with (go_at_call 141; refine HJ.out.mono ?_; rintro e w3 ⟨rfl, hw⟩; subst hw)
      go_ret2
      exact ⟨_, _, rfl, ⟨.inl ⟨rfl, _, HRl.out, rfl, HZ.out⟩, fun h => absurd rfl h⟩, HBa.out⟩
  · have d0 : (er != 0) = true := by simpa using h0
    have HNo := Lib.hid (show ∀ ns, ¬ RealN M q ns from by
      rintro ns (⟨h1, h2⟩ | ⟨_, n0, h2, _⟩)
      · rcases HP.out.2 with ⟨_, h3, _⟩ | ⟨_, _, _, hg, _⟩
        · rw [← h3] at h2; exact hno ns h2
        · exact absurd h1 (good_name hg)
      · exact hno n0 h2)
    have H0 := Lib.hid h0
    clear h0 hno
    go_wp2_with fail
    go_ret2
    exact ⟨_, _, rfl, ⟨.inr ⟨H0.out, rfl, HNo.out⟩, HEr.out⟩, HBa.out⟩

/-- What is wrong, where something is. -/
def OfE (M : List Nd) (r : Res) (er : Int) : Prop := (r.err ≠ 0 ∧ er = r.err) ∨ (r.err = 0 ∧ DirEr M r.pl.dir er)
theorem ofE_det {M : List Nd} {r : Res} {a b : Int} (h : OfE M r a) (k : OfE M r b) : a = b := by
  rcases h with ⟨h0, rfl⟩ | ⟨h0, h1⟩ <;> rcases k with ⟨k0, rfl⟩ | ⟨k0, k1⟩
  · rfl
  · exact absurd k0 h0
  · exact absurd h0 k0
  · exact dirEr_det h1 k1
/-- What Of tells: the walk's error, or the place's names' text and its node. -/
def OfR (M : List Nd) (r : Res) (s : ByteArray) (n er : Int) : Prop := (er = 0 ∧ r.err = 0 ∧ n = r.pl.id ∧ ∃ ns, RealN M r.pl ns ∧ s = pathOf ns ∧ s.size ≤ 256 * M.length + 600) ∨ (er ≠ 0 ∧ s = ⟨#[]⟩ ∧ (r.err ≠ 0 ∨ ∀ ns, ¬ RealN M r.pl ns))
set_option maxRecDepth 100000 in
set_option maxHeartbeats 4000000 in
theorem ofE_any {M : List Nd} {p : Nat} {u g : Int} (path : ByteArray) (v0 w : World) (hf : Has v0 p M w) (ht : Tab w) (hn : 0 < M.length) (hM : M.length ≤ 1000000) (hE : FewE M) (hT : ∀ i, (linkT M i).size ≤ 5000) (hR : RI M) (hD : DU M) (hs : path.size ≤ 1000000) :
    Calls Tryz.prog 38 #[.pointer (some ⟨p, 0, none⟩), .agg #[.int .i64 u, .int .i64 g], .string path] w fun e w' => ∃ s n er, e = .returned (.tuple #[.string s, .int .i64 n, .int .i64 er]) ∧ (OfR M (walkW M u g path true) s n er ∧ (er ≠ 0 → OfE M (walkW M u g path true) er)) ∧ Below w.heap.size w w' := by
  have HWk := Lib.hid (fun W (hb : Below w.heap.size w W) => walk_any (u := u) (g := g) (follow := true) path v0 W (hf.keep hb) (ht.keep hb) hn hE hT hs)
  have HPl := Lib.hid (fun q h W (hb : Below w.heap.size w W) (hp : PlOk M q) => placeE_any q h v0 W (hf.keep hb) hn hM hE hR hD hp)
  have HPk := Lib.hid (fun he => (walkW_place hR hD u g path he).1)
  unfold credV resV plV at HWk
  generalize walkW M u g path true = r at HWk HPk ⊢
  obtain ⟨err, q, hops⟩ := r
  clear hf ht hE hT hR hD hs
  go_enter Tryz.func38, Tryz.ntmps38
  go_upto_region 1 with fail
  have HX := Lib.hid (heap_alloc_new w (.cells #[.int .i64 u, .int .i64 g] 44))
  have HB := Lib.hid (show Below w.heap.size w (w.alloc (.cells #[.int .i64 u, .int .i64 g] 44)) from (Below.refl _ _).alloc (Nat.le_refl _) _)
  generalize w.alloc (.cells #[.int .i64 u, .int .i64 g] 44) = w1 at HX HB ⊢
  have c0 : w1.cell? ⟨w.heap.size, 0, none⟩ = some (.int .i64 u) := by rw [cell_of_row _ _ _ _ _ _ HX.out]; rfl
  have c1 : w1.cell? ⟨w.heap.size, 1, none⟩ = some (.int .i64 g) := by rw [cell_of_row _ _ _ _ _ _ HX.out]; rfl
  have HW1 := Lib.hid (HWk.out w1 HB.out)
  clear HWk
  go_upto_region 2 with (go_at_call 82; refine HW1.out.mono ?_; rintro e w2 ⟨rfl, hb⟩; have HB2 := Lib.hid (below_two HB.out hb); clear hb)
  have HX3 := Lib.hid (heap_alloc_new w2 (.cells #[.int .i64 q.id, .int .i64 q.dir, .string q.name, .int .i64 hops] 167))
  have HB3 := Lib.hid (show Below w.heap.size w (w2.alloc (.cells #[.int .i64 q.id, .int .i64 q.dir, .string q.name, .int .i64 hops] 167)) from HB2.out.alloc HB2.out.size _)
  generalize w2.alloc (.cells #[.int .i64 q.id, .int .i64 q.dir, .string q.name, .int .i64 hops] 167) = w3 at HX3 HB3 ⊢
  generalize w2.heap.size = b3 at HX3 ⊢
  clear c0 c1 HW1 HB2 HX
  by_cases he : err = 0
  · have HP := Lib.hid (HPk.out he)
    subst he
    have a0 : w3.cell? ⟨b3, 0, none⟩ = some (.int .i64 q.id) := by rw [cell_of_row _ _ _ _ _ _ HX3.out]; rfl
    have a1 : w3.cell? ⟨b3, 1, none⟩ = some (.int .i64 q.dir) := by rw [cell_of_row _ _ _ _ _ _ HX3.out]; rfl
    have a2 : w3.cell? ⟨b3, 2, none⟩ = some (.string q.name) := by rw [cell_of_row _ _ _ _ _ _ HX3.out]; rfl
    have a3 : w3.cell? ⟨b3, 3, none⟩ = some (.int .i64 hops) := by rw [cell_of_row _ _ _ _ _ _ HX3.out]; rfl
    have HC := Lib.hid (HPl.out q hops w3 HB3.out HP.out)
    clear HPl HPk
    go_upto_region 5 with (go_at_call 83; refine HC.out.mono ?_; rintro e w4 ⟨s, er, rfl, hr, hb⟩; have HPR := Lib.hid hr; have HB4 := Lib.hid (below_two HB3.out hb); have HX4 := Lib.hid ((hb.block _ (heap_lt HX3.out)).trans HX3.out); clear hr hb)
    clear a0 a1 a2 a3 HC
    have a0 : w4.cell? ⟨b3, 0, none⟩ = some (.int .i64 q.id) := by rw [cell_of_row _ _ _ _ _ _ HX4.out]; rfl
    have HEr := Lib.hid HPR.out.2
    rcases HPR.out.1 with ⟨rfl, ns, hd, hs, hz⟩ | ⟨h0, rfl, hno⟩
    · have HH := Lib.hid (show OfR M ⟨0, q, hops⟩ s q.id 0 from .inl ⟨rfl, rfl, rfl, ns, hd, hs, hz⟩)
      clear hd hs hz
      go_upto_region 7 with fail
      go_quiet (fail)
      go_wp2
      go_ret3
      exact ⟨_, _, _, rfl, ⟨HH.out, fun h => absurd rfl h⟩, (below_drewN' HB4.out)⟩
    · have d0 : (er != 0) = true := by simpa using h0
      have HH := Lib.hid (show OfR M ⟨0, q, hops⟩ ⟨#[]⟩ 0 er from .inr ⟨h0, rfl, .inr hno⟩)
      clear h0 hno
      go_wp2_with fail
      go_ret3
      exact ⟨_, _, _, rfl, ⟨HH.out, fun h => .inr ⟨rfl, HEr.out h⟩⟩, HB4.out⟩
  · have d0 : (err != 0) = true := by simpa using he
    have HH := Lib.hid (show OfR M ⟨err, q, hops⟩ ⟨#[]⟩ 0 err from .inr ⟨he, rfl, .inl he⟩)
    have H0 := Lib.hid he
    clear he
    go_wp2_with fail
    go_ret3
    exact ⟨_, _, _, rfl, ⟨HH.out, fun _ => .inl ⟨H0.out, rfl⟩⟩, HB3.out⟩
end Go.Proofs.YtknfhphhcnbndaaGreatDoor.V
