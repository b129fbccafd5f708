/-
  What the reference's Shown returns: what is shown of a node to somebody, or the error. Conditions: the reference's file system lies in memory; modes of 12 bits; at most 1000 entries a directory.
-/
import Derived.Test.YtcjbnjoomgagjaaGreatDoorKGArg
import Derived.Test.YtcjbnjoomgagjaaGreatDoorKVRefAsk
import Derived.Test.YtcjbnjoomgagjaaGreatDoorKPRefMay
import Derived.Test.YtcjbnjoomgagjaaGreatDoorKORefA
set_option linter.unusedVariables false
set_option linter.unusedSimpArgs false
namespace Go.Proofs.YtcjbnjoomgagjaaGreatDoor.G
open Go.RowKit
theorem two_new (w : World) (A B : Array Value) (e f : TypeId) : ((w.alloc (.cells A e)).alloc (.cells B f)).heap[w.heap.size]? = some (.cells A e (0, 0)) ∧ ((w.alloc (.cells A e)).alloc (.cells B f)).heap[w.heap.size + 1]? = some (.cells B f (0, 0)) ∧ Below w.heap.size w ((w.alloc (.cells A e)).alloc (.cells B f)) := by
  refine ⟨?_, ?_, ((Below.refl _ _).alloc (Nat.le_refl _) _).alloc (by simp) _⟩
  · have h1 := heap_alloc_new w (.cells A e)
    have h2 : Below (w.heap.size + 1) (w.alloc (.cells A e)) ((w.alloc (.cells A e)).alloc (.cells B f)) := (Below.refl _ _).alloc (by simp) _
    exact (h2.block _ (by omega)).trans h1
  · have h1 := heap_alloc_new (w.alloc (.cells A e)) (.cells B f)
    rwa [show (w.alloc (.cells A e)).heap.size = w.heap.size + 1 from by simp] at h1
theorem ins_at (x : Ent) : ∀ (l : List Ent) (k : Nat), k ≤ l.length → (∀ j y, j < k → l[j]? = some y → enC y x < 0) → (∀ y, l[k]? = some y → ¬ enC y x < 0) → insE x l = l.take k ++ x :: l.drop k
  | [], k, hk, _, _ => by
    obtain rfl : k = 0 := by simpa using hk
    rfl
  | y :: r, 0, _, _, h => by
    unfold insE
    rw [if_neg (h y rfl)]
    rfl
  | y :: r, k + 1, hk, h1, h2 => by
    unfold insE
    rw [if_pos (h1 0 y (by omega) rfl), ins_at x r k (by simpa using hk) (fun j z hj hz => h1 (j + 1) z (by omega) hz) (fun z hz => h2 z hz)]
    rfl
theorem owns_front {w : World} {b n cap k : Nat} {ao : Option Addr} {Z : List Ent} (h : w.ownsRow b 81 2 (.slice ao n cap) n (rowsC enC' Z)) (hZ : Z.length = n) (hk : k ≤ n) : w.ownsRow b 81 2 (.slice ao k cap) k (rowsC enC' (Z.take k)) := by
  refine ⟨by rw [rowsC_len enC'_len, List.length_take]; omega, ?_⟩
  rcases h.2 with ⟨hv, hn⟩ | ⟨g, cap', cur, hv, hB, hg, hnc, hcm, hcs, ht⟩
  · simp only [Value.slice.injEq] at hv
    obtain ⟨rfl, _, rfl⟩ := hv
    obtain rfl : k = 0 := by omega
    exact .inl ⟨rfl, rfl⟩
  · simp only [Value.slice.injEq] at hv
    obtain ⟨rfl, _, rfl⟩ := hv
    refine .inr ⟨g, cap, cur, rfl, hB, hg, by omega, hcm, hcs, ?_⟩
    have e2 := congrArg (List.take (k * 2)) ht
    rw [List.take_take, rowsC_take enC'_len, Nat.min_eq_left (by omega)] at e2
    exact e2
theorem owns_cap {w : World} {b n cap : Nat} {ao : Option Addr} {xs : List Value} (h : w.ownsRow b 81 2 (.slice ao n cap) n xs) : n ≤ cap := by
  rcases h.2 with ⟨hv, hn⟩ | ⟨g, cap', cur, hv, hB, hg, hnc, _⟩
  · omega
  · simp only [Value.slice.injEq] at hv
    obtain ⟨_, _, rfl⟩ := hv
    exact hnc
def SrtRel (ll : List Ent) (all : Bool) (W0 : World) (v12 v13 : Value) (wr : World) : Prop :=
  ∃ (i : Nat) (acc : List Ent) (ao : Option Addr) (cap : Nat), v12 = .slice ao acc.length cap ∧ v13 = .int .i64 (i : Int) ∧ i ≤ ll.length ∧ Hid (acc = sortE ((ll.take i).filter (shownB all))) ∧ Hid (acc.length ≤ i) ∧ Hid (wr.ownsRow W0.heap.size 81 2 v12 acc.length (rowsC enC' acc)) ∧ Hid (Below W0.heap.size W0 wr)
def InsRel (acc : List Ent) (e : Ent) (W : World) (v : Value) (wr : World) : Prop :=
  ∃ k : Nat, k ≤ acc.length ∧ v = .int .i64 (k : Int) ∧ Hid (∃ q, wr = W.drewN q) ∧ Hid (∀ (j : Nat) (y : Ent), j < k → acc[j]? = some y → enC y e < 0)
theorem srt_skip {ll : List Ent} {all : Bool} {i : Nat} {e : Ent} (he : ll[i]? = some e) (hs : shownB all e = false) : sortE ((ll.take (i + 1)).filter (shownB all)) = sortE ((ll.take i).filter (shownB all)) := by
  rw [take_snoc he, List.filter_append, List.filter_cons, if_neg (by rw [hs]; decide), List.filter_nil, List.append_nil]
theorem srt_put {ll : List Ent} {all : Bool} {i : Nat} {e : Ent} (he : ll[i]? = some e) (hs : shownB all e = true) : sortE ((ll.take (i + 1)).filter (shownB all)) = insE e (sortE ((ll.take i).filter (shownB all))) := by
  rw [take_snoc he, List.filter_append, List.filter_cons, if_pos hs, List.filter_nil, sortE_snoc]
def bareN (n : P.Nv) : P.Nv := ⟨n.dev, n.ino, n.kind, n.mode, n.uid, n.gid, n.size, n.blocks, 0, n.ta, n.tb, n.tc, n.target⟩
set_option maxRecDepth 100000 in
set_option maxHeartbeats 16000000 in
theorem rshown_any {M : List V.Nd} {L : List V.It} {r : V.Rv} (u g i : Int) (all : Bool) (w : World) (H : V.Rs M L r w) (hR : V.Rel M L) (hG : Good M) (hL : L.length ≤ 1000000) :
    Calls Tryz.prog 13 #[V.rvV r, P.credV u g, .int .i64 i, .bool all] w fun e w' => ∃ v, e = .returned (.tuple #[v, .int .i64 (shownE M u g i)]) ∧ (shownE M u g i = 0 → w'.ownsRow w.heap.size 81 2 v (shownL M all i).length (rowsC enC' (shownL M all i))) ∧ (shownE M u g i ≠ 0 → v = .slice none 0 0) ∧ Below w.heap.size w w' := by
  have HLs := Lib.hid (fun W (hb : Below w.heap.size w W) => V.rlist_any M L r i W (H.keep hb) hR hG.pos (by have := hG.few; omega) hL)
  simp only [ents_rows] at HLs
  have HLt := Lib.hid (list_sub hG.ri i)
  have HLl := Lib.hid (show (V.listL M i).length ≤ 1000 from by
    unfold V.listL
    cases ha : V.atM M i with
    | none => exact Nat.zero_le _
    | some n =>
      obtain ⟨k, _, hk⟩ := V.atM_some ha
      have := hG.ents n (List.mem_of_getElem? hk)
      dsimp only
      repeat' split
      all_goals first | exact Nat.zero_le _ | omega)
  have HK := Lib.hid (list_kind M i)
  have HSh := Lib.hid (show shownE M u g i = if V.listE M i = 2 ∨ V.listE M i = 3 then V.listE M i else if P.mayB (P.bitsP (V.nvAt M i) u g) 5 = true then V.listE M i else 5 from rfl)
  have HSl := Lib.hid (show shownL M all i = sortE ((V.listL M i).filter (shownB all)) from rfl)
  have HH := Lib.hid H
  have HG := Lib.hid hG
  have HN0 := Lib.hid (show V.listE M i = 2 ∨ V.listE M i = 3 ∨ ∃ (k : Nat) (n : V.Nd), i = (k : Int) ∧ M[k]? = some n ∧ V.nvAt M i = V.nvOf n from by
    cases ha : V.atM M i with
    | none => exact .inl (by unfold V.listE; rw [ha])
    | some n =>
      obtain ⟨k, hk, hn⟩ := V.atM_some ha
      exact .inr (.inr ⟨k, n, hk, hn, by unfold V.nvAt; rw [ha]⟩))
  obtain ⟨gn, cn, al, cl, gc, cc, gd, cd, ga, ca, af, cf, rfl⟩ := H.at6 hG.pos
  clear H hR hG
  obtain ⟨le, hle⟩ : ∃ le, V.listE M i = le := ⟨_, rfl⟩
  obtain ⟨ll, hll⟩ : ∃ ll, V.listL M i = ll := ⟨_, rfl⟩
  rw [hle] at HLs HSh HK HN0
  rw [hll] at HLs HLt HLl HSl
  clear hle hll
  obtain ⟨se, hse⟩ : ∃ se, shownE M u g i = se := ⟨_, rfl⟩
  obtain ⟨sl, hsl⟩ : ∃ sl, shownL M all i = sl := ⟨_, rfl⟩
  rw [hse] at HSh ⊢
  rw [hsl] at HSl ⊢
  clear hse hsl
  unfold P.credV V.rvV at *
  dsimp only at HLs ⊢
  go_enter Tryz.func13, Tryz.ntmps13
  go_upto_region 1 with fail
  obtain ⟨hf1, hc1, hb1⟩ := two_new w #[.slice (some ⟨gn, 0, none⟩) M.length cn, .slice al L.length cl, .slice (some ⟨gc, 0, none⟩) M.length cc, .slice (some ⟨gd, 0, none⟩) M.length cd, .slice (some ⟨ga, 0, none⟩) M.length ca, .slice af (V.devL M 0).length cf] #[.int .i64 u, .int .i64 g] 35 24
  have HF := Lib.hid hf1
  have HC := Lib.hid hc1
  have HB1 := Lib.hid hb1
  clear hf1 hc1 hb1
  generalize (w.alloc (.cells #[.slice (some ⟨gn, 0, none⟩) M.length cn, .slice al L.length cl, .slice (some ⟨gc, 0, none⟩) M.length cc, .slice (some ⟨gd, 0, none⟩) M.length cd, .slice (some ⟨ga, 0, none⟩) M.length ca, .slice af (V.devL M 0).length cf] 35)).alloc (.cells #[.int .i64 u, .int .i64 g] 24) = w1 at HF HC HB1 ⊢
  go_wp2_with (refine wpList_load_row rfl 35 (.tmp 4) rfl w.heap.size rfl 35 #[.slice (some ⟨gn, 0, none⟩) M.length cn, .slice al L.length cl, .slice (some ⟨gc, 0, none⟩) M.length cc, .slice (some ⟨gd, 0, none⟩) M.length cd, .slice (some ⟨ga, 0, none⟩) M.length ca, .slice af (V.devL M 0).length cf] (0, 0) _ HF.out Tryz.underlying35 rfl V.sizeRef ?_)
  refine (HLs.out _ HB1.out).mono ?_
  rintro e w2 ⟨lv, rfl, hown, hb⟩
  have HB2 := Lib.hid (HB1.out.trans (hb.mono HB1.out.size))
  have HF2 := Lib.hid ((hb.block _ (B.heap_lt HF.out)).trans HF.out)
  have HC2 := Lib.hid ((hb.block _ (B.heap_lt HC.out)).trans HC.out)
  have HO2 := Lib.hid (owns_lower hown HB1.out.size)
  clear hown hb HB1 HF HC HLs
  by_cases h23 : le = 2 ∨ le = 3
  · have HSe := Lib.hid (show se = le ∧ le ≠ 0 from ⟨by rw [HSh.out, if_pos h23], by omega⟩)
    rcases h23 with h2 | h3
    · have e2 : (le == 2) = true := by rw [h2]; rfl
      clear h2
      go_wp2_with fail
      go_ret2
      exact ⟨_, by rw [HSe.out.1]; rfl, fun q => absurd (HSe.out.1.symm.trans q) HSe.out.2, fun _ => rfl, HB2.out⟩
    · have e2 : (le == 2) = false := by rw [h3]; rfl
      have e3 : (le == 3) = true := by rw [h3]; rfl
      clear h3
      go_wp2_with fail
      go_ret2
      exact ⟨_, by rw [HSe.out.1]; rfl, fun q => absurd (HSe.out.1.symm.trans q) HSe.out.2, fun _ => rfl, HB2.out⟩
  · have e2 : (le == 2) = false := beq_eq_false_iff_ne.2 (by omega)
    have e3 : (le == 3) = false := beq_eq_false_iff_ne.2 (by omega)
    rw [if_neg h23] at HSh
    obtain ⟨k, n, hik, hk, hnv⟩ : ∃ (k : Nat) (n : V.Nd), i = (k : Int) ∧ M[k]? = some n ∧ V.nvAt M i = V.nvOf n := by
      rcases HN0.out with h | h | h
      · exact absurd (.inl h) h23
      · exact absurd (.inr h) h23
      · exact h
    have hkl : k < M.length := (List.getElem?_eq_some_iff.1 hk).1
    subst hik
    have HNk := Lib.hid hk
    obtain ⟨N, hN⟩ : ∃ N, bareN (V.nvOf n) = N := ⟨_, rfl⟩
    have HBt := Lib.hid (show P.bitsP (V.nvAt M (k : Int)) u g = P.bitsP N u g from by rw [hnv, ← hN]; rfl)
    have HMd := Lib.hid (show 0 ≤ N.mode ∧ N.mode < 4096 from by rw [← hN]; exact HG.out.mode n (List.mem_of_getElem? hk))
    have HNc := Lib.hid (fun (W : World) (hb : Below w.heap.size w W) => show W.rangeAt gn (k * 13) (nodeC N).toList from fun j v hj => by
      have hj13 : j < 13 := by
        have := (List.getElem?_eq_some_iff.1 hj).1
        exact this
      refine V.owns_cell (HH.out.keep hb).hn ((V.bares_get M k j n HNk.out hj13).trans ?_)
      rw [← hj, ← hN]
      rfl)
    have HKk := Lib.hid (show V.kindM M (k : Int) = n.kind from by unfold V.kindM; rw [hnv]; rfl)
    rw [HBt.out] at HSh
    have HL08 := Lib.hid (show le = 0 ∨ le = 8 from by
      by_cases q : V.kindM M (k : Int) = 2
      · exact HK.out.1 q
      · exact absurd (HK.out.2 q) h23)
    clear h23 hk hnv hN HBt HK HKk HN0
    have f0 : w2.cell? ⟨w.heap.size, 0, none⟩ = some (.slice (some ⟨gn, 0, none⟩) M.length cn) := by rw [cell_of_row _ _ _ _ _ _ HF2.out]; rfl
    have x0 : w2.cell? ⟨w.heap.size + 1, 0, none⟩ = some (.int .i64 u) := by rw [cell_of_row _ _ _ _ _ _ HC2.out]; rfl
    have x1 : w2.cell? ⟨w.heap.size + 1, 1, none⟩ = some (.int .i64 g) := by rw [cell_of_row _ _ _ _ _ _ HC2.out]; rfl
    have hr := HNc.out w2 HB2.out
    have n0 : w2.cell? ⟨gn, k * 13 + 0, none⟩ = some (.int .i64 N.dev) := hr 0 _ rfl
    have n1 : w2.cell? ⟨gn, k * 13 + 1, none⟩ = some (.int .i64 N.ino) := hr 1 _ rfl
    have n2 : w2.cell? ⟨gn, k * 13 + 2, none⟩ = some (.int .i64 N.kind) := hr 2 _ rfl
    have n3 : w2.cell? ⟨gn, k * 13 + 3, none⟩ = some (.int .i64 N.mode) := hr 3 _ rfl
    have n4 : w2.cell? ⟨gn, k * 13 + 4, none⟩ = some (.int .i64 N.uid) := hr 4 _ rfl
    have n5 : w2.cell? ⟨gn, k * 13 + 5, none⟩ = some (.int .i64 N.gid) := hr 5 _ rfl
    have n6 : w2.cell? ⟨gn, k * 13 + 6, none⟩ = some (.int .i64 N.size) := hr 6 _ rfl
    have n7 : w2.cell? ⟨gn, k * 13 + 7, none⟩ = some (.int .i64 N.blocks) := hr 7 _ rfl
    have n8 : w2.cell? ⟨gn, k * 13 + 8, none⟩ = some (.int .i64 N.links) := hr 8 _ rfl
    have n9 : w2.cell? ⟨gn, k * 13 + 9, none⟩ = some (.int .i64 N.ta) := hr 9 _ rfl
    have n10 : w2.cell? ⟨gn, k * 13 + 10, none⟩ = some (.int .i64 N.tb) := hr 10 _ rfl
    have n11 : w2.cell? ⟨gn, k * 13 + 11, none⟩ = some (.int .i64 N.tc) := hr 11 _ rfl
    have n12 : w2.cell? ⟨gn, k * 13 + 12, none⟩ = some (.string N.target) := hr 12 _ rfl
    have n00 : w2.cell? ⟨gn, k * 13, none⟩ = some (.int .i64 N.dev) := n0
    clear hr HNc HF2 HC2
    go_upto_region 4 with fail
    go_still_tail 6, (by kernel_rfl)
    change wpList _ _ _ _ _ w2.drew
    have HB3 := Lib.hid (show Below w.heap.size w w2.drew from HB2.out.drew)
    have HO3 := Lib.hid (show w2.drew.ownsRow w.heap.size 81 2 lv ll.length (rowsC enC' ll) from B.owns_to HO2.out ((Below.refl _ _).drew))
    clear f0 x0 x1 n00 n0 n1 n2 n3 n4 n5 n6 n7 n8 n9 n10 n11 n12 HB2 HO2
    generalize w2.drew = w3 at HB3 HO3 ⊢
    have HMay := Lib.hid (P.refMay_any N u g 5 w3 HMd.out.1 HMd.out.2 (by decide) (by decide))
    unfold P.nodeV P.credV at HMay
    go_wp2_with fail
    refine HMay.out.mono ?_
    rintro e w4 ⟨rfl, hb⟩
    have HB4 := Lib.hid (HB3.out.trans (hb.mono HB3.out.size))
    have HO4 := Lib.hid (B.owns_to HO3.out hb)
    clear hb HB3 HO3 HMay e2 e3
    cases hm : P.mayB (P.bitsP N u g) 5 with
    | false =>
      rw [hm] at HSh
      clear hm
      have HSe := Lib.hid (show se = 5 from HSh.out)
      go_wp2_with fail
      go_ret2
      exact ⟨_, by rw [HSe.out]; rfl, fun q => absurd (HSe.out.symm.trans q) (by decide), fun _ => rfl, HB4.out⟩
    | true =>
      rw [hm] at HSh
      clear hm
      have HSe := Lib.hid (show se = le from HSh.out)
      clear HSh
      rcases HL08.out with h0 | h8
      · subst h0
        obtain ⟨e0, he0, ez0, ez1, ez2⟩ := info_parts infoEnt
        obtain ⟨lo, lc, rfl⟩ := B.owns_form HO4.out
        have HHd := Lib.hid (show ∀ e ∈ ll, 0 < e.1.size ∧ e.1.size ≤ 255 from fun e he => ⟨(V.goodB_parts (HLt.out.2 e he).1).1, (V.goodB_parts (HLt.out.2 e he).1).2.1⟩)
        clear HLt HL08
        go_wp2_with fail
        go_loopw [12, 13] (SrtRel ll all w4) (fun _ v _ => ll.length - (intOf v).toNat)
        case atStart => exact ⟨0, [], none, 0, rfl, rfl, Nat.zero_le _, Lib.hid rfl, Lib.hid (Nat.le_refl _), Lib.hid (World.ownsRow_nil _ _ _ _), Lib.hid (Below.refl _ _)⟩
        case round =>
          obtain ⟨i, acc, ao, cap, rfl, rfl, hi, HAc, HAl, HAo, HBr⟩ := hrel
          have hlb : ll.length ≤ 1000 := HLl.out
          have hab : acc.length ≤ i := HAl.out
          have HLr := Lib.hid (B.owns_to HO4.out HBr.out)
          by_cases hlt : i < ll.length
          · have d1 : decide ((i : Int) < (ll.length : Int)) = true := decide_eq_true (by omega)
            obtain ⟨e, he⟩ : ∃ e, ll[i]? = some e := ⟨_, List.getElem?_eq_getElem hlt⟩
            have HE := Lib.hid he
            obtain ⟨gl, c2, hv, _, _⟩ := B.owns_some HLr.out (by omega)
            simp only [Value.slice.injEq] at hv
            obtain ⟨rfl, _, rfl⟩ := hv
            obtain ⟨hz0, hz1⟩ := HHd.out e (List.mem_of_getElem? he)
            have HRr := Lib.hid (show ∀ W, Below wr.heap.size wr W → W.cell? ⟨gl, i * 2, none⟩ = some (.string e.1) ∧ W.cell? ⟨gl, i * 2 + 1, none⟩ = some (.int .i64 e.2) from fun W hW => by
              have q := B.owns_to HLr.out hW
              exact ⟨B.owns_cell q ((rowsC_get enC'_len _ _ 0 _ HE.out (by decide)).trans rfl), B.owns_cell q ((rowsC_get enC'_len _ _ 1 _ HE.out (by decide)).trans rfl)⟩)
            obtain ⟨r0, r1⟩ := HRr.out wr (Below.refl _ _)
            obtain ⟨c, hc⟩ : ∃ c, e.1[0]'hz0 = c := ⟨_, rfl⟩
            have HHi := Lib.hid (show hidB e = (c == 46) from by
              unfold hidB
              have h1 := B.list_at hz0
              rw [hc] at h1
              rw [List.head?_eq_getElem?, h1, Bool.eq_iff_iff, beq_iff_eq, beq_iff_eq]
              simp)
            clear he
            go_upto_region 12 with fail
            go_cut [56] from 46 to 57 (fun a wx => a = .bool (!shownB all e) ∧ Hid (wx = wr))
            case first =>
              cases all with
              | true =>
                go_wp2_with fail
                go_meet
                exact ⟨rfl, Lib.hid rfl⟩
              | false =>
                have hq : (((c.toNat : Nat) : Int) == 46) = hidB e := by
                  rw [HHi.out, Bool.eq_iff_iff, beq_iff_eq, beq_iff_eq]
                  constructor
                  · intro h
                    exact UInt8.toNat_inj.1 (by have : c.toNat = 46 := by omega
                                                rw [this]; rfl)
                  · intro h; rw [h]; rfl
                go_wp2_with fail
                go_meet
                exact ⟨by show _ = Value.bool (!(false || !hidB e)); simp [hq], Lib.hid rfl⟩
            case rest =>
              obtain ⟨rfl, hwx⟩ := hcut
              have e2 := hwx.out.symm
              subst e2
              clear hwx hc HHi r0 r1
              obtain ⟨wo, hwo⟩ : ∃ wo, wo = wr := ⟨_, rfl⟩
              subst hwo
              cases hs : shownB all e with
              | false =>
                have HSk := Lib.hid (srt_skip HE.out hs)
                clear hs
                go_wp2_with fail
                go_roundw
                case rel => exact ⟨i + 1, acc, ao, cap, rfl, by simp, by omega, Lib.hid (by rw [HSk.out, ← HAc.out]), Lib.hid (by have := HAl.out; omega), HAo, HBr⟩
                case measure => simp [intOf]; omega
              | true =>
                have HPt := Lib.hid (srt_put HE.out hs)
                clear hs
                go_wp2_with fail
                go_loopw [14] (InsRel acc e wo) (fun v _ => acc.length - (intOf v).toNat)
                case atStart => exact ⟨0, Nat.zero_le _, rfl, Lib.hid ⟨0, rfl⟩, Lib.hid (fun j y hj => by omega)⟩
                case round =>
                  obtain ⟨k, hk, rfl, hq, HLe⟩ := hrel
                  obtain ⟨q, hq⟩ := hq.out
                  have HQ := Lib.hid hq
                  have HBq := Lib.hid (show Below wo.heap.size wo wr from by rw [hq]; exact drewn_below (Below.refl _ _))
                  clear hq
                  have HBi := Lib.hid (fun nq => drewn_below (n := nq) HBq.out)
                  by_cases hka : k < acc.length
                  · have dk : decide ((k : Int) < (acc.length : Int)) = true := decide_eq_true (by omega)
                    obtain ⟨y, hy⟩ : ∃ y, acc[k]? = some y := ⟨_, List.getElem?_eq_getElem hka⟩
                    have HY := Lib.hid hy
                    obtain ⟨ga, ca2, hv, _, _⟩ := B.owns_some HAo.out (by omega)
                    simp only [Value.slice.injEq] at hv
                    obtain ⟨rfl, _, rfl⟩ := hv
                    have hyl : y ∈ ll := (List.mem_filter.1 ((sortE_perm _).mem_iff.1 (by have h1 := List.mem_of_getElem? hy; rw [HAc.out] at h1; exact h1))).1 |> List.mem_of_mem_take
                    have HLs := Lib.hid (fun W => O.rless_any y.1 e.1 W (by have := (HHd.out y hyl).2; omega) (by omega))
                    have o0 : wr.cell? ⟨ga, k * 2, none⟩ = some (.string y.1) := B.owns_cell (B.owns_to HAo.out HBq.out) ((rowsC_get enC'_len _ _ 0 _ hy (by decide)).trans rfl)
                    obtain ⟨r0, _⟩ := HRr.out wr HBq.out
                    clear hy hyl
                    by_cases hen : enC y e < 0
                    · have dl : decide (O.lessL y.1.data.toList e.1.data.toList < 0) = true := decide_eq_true hen
                      go_upto_region 14 with fail
                      go_quiet (first | (go_at_call 37; refine Calls.quiet_of (HLs.out _)))
                      go_wp2_with fail
                      go_roundw
                      case rel => exact ⟨k + 1, by omega, by simp, Lib.hid ⟨q + nq, by rw [HQ.out, World.drewN_drewN]⟩, Lib.hid (fun j z hj hz => by
                        rcases Nat.lt_or_ge j k with h | h
                        · exact HLe.out j z h hz
                        · obtain rfl : j = k := by omega
                          rw [HY.out] at hz
                          obtain rfl := Option.some.inj hz
                          exact hen)⟩
                      case measure => simp [intOf]; omega
                    · have dl : decide (O.lessL y.1.data.toList e.1.data.toList < 0) = false := decide_eq_false hen
                      have HIn := Lib.hid (ins_at e acc k hk HLe.out (fun z hz => by rw [HY.out] at hz; obtain rfl := Option.some.inj hz; exact hen))
                      go_upto_region 14 with fail
                      go_quiet (first | (go_at_call 37; refine Calls.quiet_of (HLs.out _)))
                      clear o0 r0 dk dl hen HLs HQ HBq
                      replace HBi := Lib.hid (HBi.out nq)
                      go_upto_region 16 with fail
-- INS 1
                      generalize wr.drewN nq = wi at HBi ⊢
                      have HAi := Lib.hid (B.owns_to HAo.out HBi.out)
                      have hkc : k ≤ cap := Nat.le_trans hk (owns_cap HAo.out)
                      have hkw : IntKind.i64.wrap (k : Int) = (k : Int) := IntWalk.i64_in _ (by omega)
                      clear HAo
                      go_upto_region 17 with (at_builtin; go_loud (refine B.wpList_append_row rfl (.tmp 77) (.tmp 80) 45 rfl wi.heap.size 81 e0 _ 2 24 Tryz.underlying45 he0 ez0 ez1 ez2 rfl (by decide) (.slice (some ⟨wi.heap.size, 0, none⟩) 0 0) 0 [] rfl (V.owns_made (Nat.le_refl _)) (.slice (some ⟨ga, 0, none⟩) k cap) k (rowsC enC' (acc.take k)) rfl (owns_lower (owns_front (HAi.out.alloc _) rfl hk) (Nat.zero_le _)) (enCs_one _) (by unfold maxLen; omega) (by omega) (by simp) ?_; intro v1 w5 hown hgrow; rw [Nat.zero_add, List.nil_append] at hown; have H1 := Lib.hid hown; have HB5 := Lib.hid (((Below.refl wi.heap.size wi).alloc (Nat.le_refl _) (.cells #[] 81)).grown hgrow (by simp) (fun j hj => by cases hj; exact Nat.le_refl _)); clear hown hgrow))
                      obtain ⟨q0, q1⟩ := HRr.out w5 (HBi.out.trans (HB5.out.mono HBi.out.size))
                      go_upto_region 18 with (at_builtin; go_loud (refine B.wpList_append_row rfl (.tmp 82) (.tmp 87) 45 rfl wi.heap.size 81 e0 _ 2 24 Tryz.underlying45 he0 ez0 ez1 ez2 rfl (by decide) v1 k (rowsC enC' (acc.take k)) rfl (H1.out.alloc _) (.slice (some ⟨w5.heap.size, 0, none⟩) 1 1) 1 (enC' e) rfl (V.owns_single 2 rfl) (fun u hu => enCs_one [e] u (by rw [rowsC_one]; exact hu)) (by unfold maxLen; omega) (by omega) (Nat.le_trans HB5.out.size (by simp)) ?_; intro v2 w6 hown hgrow; have H2 := Lib.hid hown; have HB6 := Lib.hid ((HB5.out.alloc HB5.out.size _).grown hgrow (Nat.le_trans HB5.out.size (by simp)) (fun j hj => (H1.out.lt j hj).1)); clear hown hgrow))
                      have HA6 := Lib.hid (B.owns_to HAi.out HB6.out)
                      clear q0 q1 H1 HB5
                      have hck : ¬ cap = k := by have := owns_cap HA6.out; omega
                      go_upto_region 19 with (at_builtin; go_loud (refine wpList_append_own _ rfl (.tmp 89) (.tmp 92) 45 rfl wi.heap.size 81 e0 _ 2 24 Tryz.underlying45 he0 ez0 ez1 ez2 rfl (by decide) v2 (k + 1) (rowsC enC' (acc.take k) ++ enC' e) rfl H2.out ⟨ga, k * 2, none⟩ (acc.length - k) (cap - k) (rowsC enC' (acc.drop k)) rfl (by rw [rowsC_len enC'_len, List.length_drop]) (fun j u hu => by rw [Addr.add_mid]; exact B.owns_cell HA6.out (by rw [← hu, ← List.take_append_drop k acc, rowsC_app, List.getElem?_append_right (by rw [rowsC_len enC'_len, List.length_take]; omega), rowsC_len enC'_len, List.length_take, List.take_append_drop, Nat.min_eq_left hk]; congr 1; omega)) (enCs_one _) (by unfold maxLen; omega) (by omega) HB6.out.size ?_))
                      intro v3 w7 hown hgrow _
                      have H3 := Lib.hid (show w7.ownsRow wi.heap.size 81 2 v3 (insE e acc).length (rowsC enC' (insE e acc)) from by
                        have hlen : (insE e acc).length = k + 1 + (acc.length - k) := by rw [HIn.out, List.length_append, List.length_cons, List.length_take, List.length_drop]; omega
                        rw [hlen, HIn.out, rowsC_app]
                        have e3 : rowsC enC' (e :: acc.drop k) = enC' e ++ rowsC enC' (acc.drop k) := rfl
                        rw [e3]
                        exact hown)
                      have HB7 := Lib.hid (HB6.out.grown hgrow HB6.out.size (fun j hj => (H2.out.lt j hj).1))
                      clear hown hgrow
                      obtain ⟨a3, c3, h3⟩ := B.owns_form H3.out
                      subst h3
                      go_wp2_with fail
                      go_roundw
                      case rel => exact ⟨i + 1, insE e acc, a3, c3, rfl, by simp, by omega, Lib.hid (by rw [HPt.out, ← HAc.out]), Lib.hid (by rw [(insE_perm e acc).length_eq, List.length_cons]; omega), Lib.hid (owns_lower H3.out (Nat.le_trans HBr.out.size HBi.out.size)), Lib.hid (HBr.out.trans ((HBi.out.trans (HB7.out.mono HBi.out.size)).mono HBr.out.size))⟩
                      case measure => simp [intOf]; omega
-- INS 1 END
                  · have dk : decide ((k : Int) < (acc.length : Int)) = false := decide_eq_false (by omega)
                    have HK2 := Lib.hid (show acc.length ≤ k from by omega)
                    have HIn := Lib.hid (ins_at e acc k hk HLe.out (fun z hz => by have := (List.getElem?_eq_some_iff.1 hz).1; omega))
                    go_upto_region 14 with fail
                    go_quiet (fail)
                    clear dk HQ HBq hka
                    replace HBi := Lib.hid (HBi.out nq)
                    go_upto_region 16 with fail
-- INS 2
                    generalize wr.drewN nq = wi at HBi ⊢
                    have HAi := Lib.hid (B.owns_to HAo.out HBi.out)
                    have hkc : k ≤ cap := Nat.le_trans hk (owns_cap HAo.out)
                    have hkw : IntKind.i64.wrap (k : Int) = (k : Int) := IntWalk.i64_in _ (by omega)
                    clear HAo
                    go_upto_region 17 with (at_builtin; go_loud (refine B.wpList_append_row rfl (.tmp 77) (.tmp 80) 45 rfl wi.heap.size 81 e0 _ 2 24 Tryz.underlying45 he0 ez0 ez1 ez2 rfl (by decide) (.slice (some ⟨wi.heap.size, 0, none⟩) 0 0) 0 [] rfl (V.owns_made (Nat.le_refl _)) (.slice ao k cap) k (rowsC enC' (acc.take k)) rfl (owns_lower (owns_front (HAi.out.alloc _) rfl hk) (Nat.zero_le _)) (enCs_one _) (by unfold maxLen; omega) (by omega) (by simp) ?_; intro v1 w5 hown hgrow; rw [Nat.zero_add, List.nil_append] at hown; have H1 := Lib.hid hown; have HB5 := Lib.hid (((Below.refl wi.heap.size wi).alloc (Nat.le_refl _) (.cells #[] 81)).grown hgrow (by simp) (fun j hj => by cases hj; exact Nat.le_refl _)); clear hown hgrow))
                    obtain ⟨q0, q1⟩ := HRr.out w5 (HBi.out.trans (HB5.out.mono HBi.out.size))
                    go_upto_region 18 with (at_builtin; go_loud (refine B.wpList_append_row rfl (.tmp 82) (.tmp 87) 45 rfl wi.heap.size 81 e0 _ 2 24 Tryz.underlying45 he0 ez0 ez1 ez2 rfl (by decide) v1 k (rowsC enC' (acc.take k)) rfl (H1.out.alloc _) (.slice (some ⟨w5.heap.size, 0, none⟩) 1 1) 1 (enC' e) rfl (V.owns_single 2 rfl) (fun u hu => enCs_one [e] u (by rw [rowsC_one]; exact hu)) (by unfold maxLen; omega) (by omega) (Nat.le_trans HB5.out.size (by simp)) ?_; intro v2 w6 hown hgrow; have H2 := Lib.hid hown; have HB6 := Lib.hid ((HB5.out.alloc HB5.out.size _).grown hgrow (Nat.le_trans HB5.out.size (by simp)) (fun j hj => (H1.out.lt j hj).1)); clear hown hgrow))
                    have HA6 := Lib.hid (B.owns_to HAi.out HB6.out)
                    clear q0 q1 H1 HB5
                    rcases HA6.out.2 with ⟨hv, hn0⟩ | ⟨ga2, cap', cur, hv, _, _, _, _, _, _⟩
                    · simp only [Value.slice.injEq] at hv
                      obtain ⟨rfl, _, rfl⟩ := hv
                      have hk0 : k = 0 := by omega
                      have HN0 := Lib.hid (show acc = [] from List.eq_nil_of_length_eq_zero (by omega))
                      subst hk0
                      go_upto_region 19 with (at_builtin; go_loud (refine B.wpList_append_row rfl (.tmp 89) (.tmp 92) 45 rfl wi.heap.size 81 e0 _ 2 24 Tryz.underlying45 he0 ez0 ez1 ez2 rfl (by decide) v2 (0 + 1) (rowsC enC' (acc.take 0) ++ enC' e) rfl H2.out (.slice none 0 0) 0 [] rfl (World.ownsRow_nil _ _ _ _) (by intro u hu; cases hu) (by unfold maxLen; omega) (by omega) HB6.out.size ?_))
                      intro v3 w7 hown hgrow
                      have H3 := Lib.hid (show w7.ownsRow wi.heap.size 81 2 v3 (insE e acc).length (rowsC enC' (insE e acc)) from by
                        have hlen : (insE e acc).length = 0 + 1 + (acc.length - 0) := by rw [HIn.out, List.length_append, List.length_cons, List.length_take, List.length_drop]; omega
                        rw [hlen, HIn.out, rowsC_app]
                        have e3 : rowsC enC' (e :: acc.drop 0) = enC' e ++ rowsC enC' (acc.drop 0) := rfl
                        rw [e3]
                        obtain rfl := HN0.out; have e4 : rowsC enC' ([] : List Ent) = [] := rfl; simpa [e4] using hown)
                      have HB7 := Lib.hid (HB6.out.grown hgrow HB6.out.size (fun j hj => (H2.out.lt j hj).1))
                      clear hown hgrow
                      obtain ⟨a3, c3, h3⟩ := B.owns_form H3.out
                      subst h3
                      go_wp2_with fail
                      go_roundw
                      case rel => exact ⟨i + 1, insE e acc, a3, c3, rfl, by simp, by omega, Lib.hid (by rw [HPt.out, ← HAc.out]), Lib.hid (by rw [(insE_perm e acc).length_eq, List.length_cons]; omega), Lib.hid (owns_lower H3.out (Nat.le_trans HBr.out.size HBi.out.size)), Lib.hid (HBr.out.trans ((HBi.out.trans (HB7.out.mono HBi.out.size)).mono HBr.out.size))⟩
                      case measure => simp [intOf]; omega
                    · simp only [Value.slice.injEq] at hv
                      obtain ⟨rfl, _, rfl⟩ := hv
                      by_cases hck : cap = k
                      · go_upto_region 19 with (at_builtin; go_loud (refine wpList_append_own _ rfl (.tmp 89) (.tmp 92) 45 rfl wi.heap.size 81 e0 _ 2 24 Tryz.underlying45 he0 ez0 ez1 ez2 rfl (by decide) v2 (k + 1) (rowsC enC' (acc.take k) ++ enC' e) rfl H2.out _ (acc.length - k) _ (rowsC enC' (acc.drop k)) rfl (by rw [rowsC_len enC'_len, List.length_drop]) (fun j u hu => by rw [List.drop_of_length_le HK2.out] at hu; cases hu) (enCs_one _) (by unfold maxLen; omega) (by omega) HB6.out.size ?_))
                        intro v3 w7 hown hgrow _
                        have H3 := Lib.hid (show w7.ownsRow wi.heap.size 81 2 v3 (insE e acc).length (rowsC enC' (insE e acc)) from by
                          have hlen : (insE e acc).length = k + 1 + (acc.length - k) := by rw [HIn.out, List.length_append, List.length_cons, List.length_take, List.length_drop]; omega
                          rw [hlen, HIn.out, rowsC_app]
                          have e3 : rowsC enC' (e :: acc.drop k) = enC' e ++ rowsC enC' (acc.drop k) := rfl
                          rw [e3]
                          exact hown)
                        have HB7 := Lib.hid (HB6.out.grown hgrow HB6.out.size (fun j hj => (H2.out.lt j hj).1))
                        clear hown hgrow
                        obtain ⟨a3, c3, h3⟩ := B.owns_form H3.out
                        subst h3
                        go_wp2_with fail
                        go_roundw
                        case rel => exact ⟨i + 1, insE e acc, a3, c3, rfl, by simp, by omega, Lib.hid (by rw [HPt.out, ← HAc.out]), Lib.hid (by rw [(insE_perm e acc).length_eq, List.length_cons]; omega), Lib.hid (owns_lower H3.out (Nat.le_trans HBr.out.size HBi.out.size)), Lib.hid (HBr.out.trans ((HBi.out.trans (HB7.out.mono HBi.out.size)).mono HBr.out.size))⟩
                        case measure => simp [intOf]; omega
                      · go_upto_region 19 with (at_builtin; go_loud (refine wpList_append_own _ rfl (.tmp 89) (.tmp 92) 45 rfl wi.heap.size 81 e0 _ 2 24 Tryz.underlying45 he0 ez0 ez1 ez2 rfl (by decide) v2 (k + 1) (rowsC enC' (acc.take k) ++ enC' e) rfl H2.out ⟨ga2, k * 2, none⟩ (acc.length - k) (cap - k) (rowsC enC' (acc.drop k)) rfl (by rw [rowsC_len enC'_len, List.length_drop]) (fun j u hu => by rw [List.drop_of_length_le HK2.out] at hu; cases hu) (enCs_one _) (by unfold maxLen; omega) (by omega) HB6.out.size ?_))
                        intro v3 w7 hown hgrow _
                        have H3 := Lib.hid (show w7.ownsRow wi.heap.size 81 2 v3 (insE e acc).length (rowsC enC' (insE e acc)) from by
                          have hlen : (insE e acc).length = k + 1 + (acc.length - k) := by rw [HIn.out, List.length_append, List.length_cons, List.length_take, List.length_drop]; omega
                          rw [hlen, HIn.out, rowsC_app]
                          have e3 : rowsC enC' (e :: acc.drop k) = enC' e ++ rowsC enC' (acc.drop k) := rfl
                          rw [e3]
                          exact hown)
                        have HB7 := Lib.hid (HB6.out.grown hgrow HB6.out.size (fun j hj => (H2.out.lt j hj).1))
                        clear hown hgrow
                        obtain ⟨a3, c3, h3⟩ := B.owns_form H3.out
                        subst h3
                        go_wp2_with fail
                        go_roundw
                        case rel => exact ⟨i + 1, insE e acc, a3, c3, rfl, by simp, by omega, Lib.hid (by rw [HPt.out, ← HAc.out]), Lib.hid (by rw [(insE_perm e acc).length_eq, List.length_cons]; omega), Lib.hid (owns_lower H3.out (Nat.le_trans HBr.out.size HBi.out.size)), Lib.hid (HBr.out.trans ((HBi.out.trans (HB7.out.mono HBi.out.size)).mono HBr.out.size))⟩
                        case measure => simp [intOf]; omega
-- INS 2 END
          · have d1 : decide ((i : Int) < (ll.length : Int)) = false := decide_eq_false (by omega)
            obtain rfl : i = ll.length := by omega
            have HAe := Lib.hid (show acc = sl from by rw [HAc.out, List.take_length, HSl.out])
            go_wp2_with fail
            go_ret2
            exact ⟨_, by rw [HSe.out]; rfl, fun _ => by rw [← HAe.out]; exact owns_lower HAo.out HB4.out.size, fun q => absurd HSe.out q, HB4.out.trans (HBr.out.mono HB4.out.size)⟩
      · have h1 : (le != 0) = true := by rw [h8]; rfl
        have HE := Lib.hid (show se = le ∧ le ≠ 0 from ⟨HSe.out, by omega⟩)
        clear h8
        go_wp2_with fail
        go_ret2
        exact ⟨_, by rw [HE.out.1]; rfl, fun q => absurd (HE.out.1.symm.trans q) HE.out.2, fun _ => rfl, HB4.out⟩
end Go.Proofs.YtcjbnjoomgagjaaGreatDoor.G
