/-
  What roam.Walk returns: the model's visits. Conditions: what is asked answers as a tree does; at most 200000 visits, names of at most 90000 bytes.
  What roam.Shown returns: what is shown of a node to somebody, or the error. Conditions: the file system lies in memory, and the table of classes as its text lays it; at most 1000 entries a directory.
  What changes make has modes of 12 bits, and few entries; roam's questions answered over it as a tree is. Conditions: each fact's own.
-/
import Derived.Test.YtpikndeefiediaaGreatDoorKGWalk
import Derived.Test.YtpikndeefiediaaGreatDoorKGSorted
import Derived.Test.YtpikndeefiediaaGreatDoorKGRun
import Derived.Test.YtpikndeefiediaaGreatDoorKVMade
set_option linter.unusedVariables false
set_option linter.unusedSimpArgs false
namespace Go.Proofs.YtpikndeefiediaaGreatDoor.G
open List renaming setIfInBounds_toArray → lt, set_cons_zero → l0, set_cons_succ → ls
open Go.RowKit

def muA (L : List Vis) (l : Nat) (a : Act) (w : World) : Nat := match a.tmps.getD 15 undef with
  | .pointer (some ad) => muW L ad.block l w
  | _ => 0
theorem sizeWalk : (Tryz.prog.info? 95).map (·.size) = some 7 := by kernel_rfl
def walkZ : Array Value := #[.pointer none, .int .i64 0, .int .i64 0, .int .i64 0, .bool false, .slice none 0 0, .slice none 0 0]
theorem walkC_one (p : Nat) (u g m : Int) (all : Bool) : (#[.pointer (some ⟨p, 0, none⟩), .int .i64 u, .int .i64 g, .int .i64 m, .bool all, .slice none 0 0, .slice none 0 0] : Array Value).all (·.oneCell') = true := by simp [Value.oneCell']
theorem owns_lower {w : World} {b b' : Nat} {e : TypeId} {size n : Nat} {v : Value} {xs : List Value} (h : w.ownsRow b e size v n xs) (hb : b' ≤ b) : w.ownsRow b' e size v n xs := by
  obtain ⟨q1, q2⟩ := h
  refine ⟨q1, ?_⟩
  rcases q2 with q | ⟨g', c', cur, q3, q4, q5⟩
  · exact .inl q
  · exact .inr ⟨g', c', cur, q3, Nat.le_trans hb q4, q5⟩
/-- The first visit of a walk. -/
def firstV (id : Int) (name : ByteArray) : Vis := ⟨id, 0, name, name, true, false, 0⟩
def walkL (T : Tr) (E : Int → Int) (most id : Int) (name : ByteArray) : List Vis := if E id = 0 then wkV T most (firstV id name) else []
/-- What a walk's end owes. -/
def WalkP (T : Tr) (E : Int → Int) (most id : Int) (name : ByteArray) (w : World) (e : Ending) (w' : World) : Prop :=
  ∃ v, e = .returned v ∧ w'.ownsRow w.heap.size 82 7 v (walkL T E most id name).length (rowsC visC (walkL T E most id name)) ∧ Below w.heap.size w w'
section
variable {T : Tr} {E : Int → Int} {W0 : World} {R nb : Nat} {b p : Nat} {u g most id : Int} {name : ByteArray} {all : Bool} {L : List Vis}
set_option maxRecDepth 100000 in
theorem ret_fin (hL : walkL T E most id name = L) (hR : W0.heap.size ≤ R) (a : Act) (w : World) (h : RetW L W0 R nb b a w) : bodyPost Tryz.prog Tryz.f19 (WalkP T E most id name W0) .ret a w := by
  obtain ⟨vv, u0, u1, u2, u3, u4, u5, u6, u7, u8, u9, u10, u11, u13, u14, u17, u18, u19, u20, u21, u22, u23, u24, u25, u26, u27, u28, u29, u30, u31, u32, u33, u34, u35, u36, u37, u38, u39, u40, u41, u42, u43, u44, u45, u46, u47, u48, u49, u50, u51, u52, u53, u54, u55, ho, hb, rfl⟩ := h
  go_ret
  exact ⟨vv, rfl, by rw [hL]; exact owns_lower ho hR, hb⟩
/-- What holds at the labels, wherever the walk and its visit lie. -/
def JX (T : Tr) (most : Int) (L : List Vis) (W0 : World) (p : Nat) (u g : Int) (all : Bool) (l : Nat) (a : Act) (w' : World) : Prop := ∃ R nb b, W0.heap.size ≤ nb ∧ W0.heap.size ≤ R ∧ JW T most L W0 R nb b p u g all l a w'
theorem jw_mu {l : Nat} {a : Act} {w : World} (h : JW T most L W0 R nb b p u g all l a w) : muA L l a w = muW L b l w := by
  obtain ⟨u0, u1, u2, u3, u4, u5, u6, u7, u8, u9, u10, u11, u12, u13, u14, u17, u18, u19, u20, u21, u22, u23, u24, u25, u26, u27, u28, u29, u30, u31, u32, u33, u34, u35, u36, u37, u38, u39, u40, u41, u42, u43, u44, u45, u46, u47, u48, u49, u50, u51, u52, u53, u54, u55, _, rfl⟩ := h
  rfl
set_option maxRecDepth 100000 in
set_option maxHeartbeats 8000000 in
theorem pwalk_any (HT : Tel T E W0 p u g all) (hL : (wkV T most (firstV id name)).length ≤ 200000) (hN : ∀ x ∈ wkV T most (firstV id name), x.name.size ≤ 90000) (hE : ∀ d, ∀ e ∈ (T.shown d).2, e.1.size ≤ 1000) :
    Calls Tryz.prog 19 #[.pointer (some ⟨p, 0, none⟩), P.credV u g, .int .i64 id, .string name, .int .i64 most, .bool all] W0 (WalkP T E most id name W0) := by
  have HLn := Lib.hid hL
  have HNm := Lib.hid hN
  have HEn := Lib.hid hE
  clear hL hN hE
  obtain ⟨L, hL⟩ : ∃ L, walkL T E most id name = L := ⟨_, rfl⟩
  have HL := Lib.hid hL
  unfold P.credV
  go_enter Tryz.func19, Tryz.ntmps19
  go_wp2_with fail
  by_cases hE0 : E id = 0
  · have HLe := Lib.hid (show L = wkV T most (firstV id name) from by rw [← hL]; unfold walkL; rw [if_pos hE0])
    clear hL
    have hL2 : L.length ≤ 200000 := by rw [HLe.out]; exact HLn.out
    refine B.wp_scope_hops (JX T most L W0 p u g all) (muA L) ?pass ?start
    case pass =>
      rintro l a w ⟨R, nb, b, hB, hR, hj⟩
      have HJ := Lib.hid hj
      have hmu := jw_mu hj
      have hl : l = 0 ∨ l = 1 := by
        obtain ⟨_, _, _, _, _, _, _, _, _, _, _, _, _, _, _, _, _, _, _, _, _, _, _, _, _, _, _, _, _, _, _, _, _, _, _, _, _, _, _, _, _, _, _, _, _, _, _, _, _, _, _, _, _, _, ⟨S, D, sv, vv, nc, _, _, _, hl⟩, _⟩ := hj
        rcases hl with ⟨h, _⟩ | ⟨h, _⟩
        · exact .inr h
        · exact .inl h
      clear hj
      rcases hl with rfl | rfl
      · refine ⟨_, rfl, ?_⟩
        refine wp_seq (wp_skip (then_normal ?_))
        exact visit_part HT hB hL2 (by rw [HLe.out]; exact HNm.out) HEn.out ⟨_, _, rfl, rfl⟩ a w HJ.out (fun l2 a2 w2 h2 hlt => B.hops_goto ⟨⟨R, nb, b, hB, hR, h2⟩, by rw [jw_mu h2, hmu]; exact hlt⟩) (fun a2 w2 h2 => B.hops_ret (ret_fin HL.out hR a2 w2 h2))
      · refine ⟨_, rfl, ?_⟩
        refine wp_seq (wp_skip (then_normal ?_))
        exact next_part HT hB hL2 (by rw [HLe.out]; exact HNm.out) ⟨_, _, rfl, rfl⟩ a w HJ.out (fun l2 a2 w2 h2 hlt => B.hops_goto ⟨⟨R, nb, b, hB, hR, h2⟩, by rw [jw_mu h2, hmu]; exact hlt⟩) (fun a2 w2 h2 => B.hops_ret (ret_fin HL.out hR a2 w2 h2))
    case start =>
      have HNd := Lib.hid (fun W hb => HT.node id W hb)
      have HOv := Lib.hid (fun W hb => HT.over id W hb)
      have HB0 := Lib.hid ((Below.refl W0.heap.size W0).alloc (Nat.le_refl _) (.cells #[.int .i64 u, .int .i64 g] 50))
      have HX0 := Lib.hid (heap_alloc_new W0 (.cells #[.int .i64 u, .int .i64 g] 50))
      rw [hE0] at HNd
      go_upto_region 1 with fail
      generalize W0.alloc (.cells #[.int .i64 u, .int .i64 g] 50) = wa at HB0 HX0 ⊢
      go_wp2_with fail
      refine (HNd.out _ HB0.out).mono ?_
      rintro e wb ⟨n, rfl, hk, hb⟩
      have HBb := Lib.hid (HB0.out.trans (hb.mono HB0.out.size))
      have HXb := Lib.hid ((hb.block _ (B.heap_lt HX0.out)).trans HX0.out)
      clear hb hk HB0 HX0 HNd
      unfold P.nodeV
      go_upto_region 2 with (refine wpList_store_row rfl 36 (.tmp 13) (.tmp 21) rfl wb.heap.size (nodeC n) rfl rfl _ _ (heap_alloc_new _ _) sizeNode rfl (nodeC_one n) ?_; rw [World.setRow_alloc_new])
      have HA1 := Lib.hid ((Below.refl wb.heap.size wb).alloc (Nat.le_refl _) (.cells (nodeC n) 36))
      generalize wb.alloc (.cells (nodeC n) 36) = w1 at HA1 ⊢
      have HB1 := Lib.hid (HBb.out.trans (HA1.out.mono HBb.out.size))
      have HX1 := Lib.hid ((HA1.out.block _ (B.heap_lt HXb.out)).trans HXb.out)
      have HCr := Lib.hid (show ∀ W, Below w1.heap.size w1 W → W.cell? ⟨W0.heap.size, 0, none⟩ = some (.int .i64 u) ∧ W.cell? ⟨W0.heap.size, 1, none⟩ = some (.int .i64 g) from fun W hW => by
        have q := (hW.block _ (B.heap_lt HX1.out)).trans HX1.out
        constructor <;> (rw [cell_of_row _ _ _ _ _ _ q]; rfl))
      clear HBb HXb HA1 HX1
      go_upto_region 4 with fail
      go_cut [15] from 25 to 31 (fun a15 wx => ∃ b : Nat, a15 = .pointer (some ⟨b, 0, none⟩) ∧ wx.heap[b]? = some (.cells #[.pointer (some ⟨p, 0, none⟩), .int .i64 u, .int .i64 g, .int .i64 (deepestI most), .bool all, .slice none 0 0, .slice none 0 0] 95 (0, 0)) ∧ Below w1.heap.size w1 wx ∧ w1.heap.size ≤ b)
      case first =>
-- TILL 1
        refine B.Till.region (z := 7) (S := fun w' => Below w1.heap.size w1 w') (by kernel_rfl) ((Below.refl _ _).drew) (fun hHeld => ?_)
        refine B.Till.take (i := 0) (oi := ⟨some 25, .move (.tmp 0), 25, "roam.go:73", #[], none⟩) (v := .pointer (some ⟨p, 0, none⟩)) rfl (by kernel_rfl) (by kernel_rfl) (by kernel_rfl) (by kernel_rfl) (fun _ _ _ h => h) (Or.inl ⟨by rfl, fun w0 hS0 => ?_⟩) (by assumption) ?_
        · go_simp
        try simp only [Act.put, lt, l0, ls]
        refine B.Till.take (i := 1) (oi := ⟨some 26, .load 50 (.tmp 7), 50, "roam.go:73", #[], none⟩) (v := .agg #[.int .i64 u, .int .i64 g]) rfl (by kernel_rfl) (by kernel_rfl) (by kernel_rfl) (by kernel_rfl) (fun _ _ _ h => h) (Or.inl ⟨by rfl, fun w0 hS0 => ?_⟩) (by assumption) ?_
        · obtain ⟨c0, c1⟩ := HCr.out _ hS0; go_simp
        try simp only [Act.put, lt, l0, ls]
        refine B.Till.take (i := 2) (oi := ⟨some 27, .move (.tmp 4), 3, "roam.go:73", #[], none⟩) (v := .int .i64 most) rfl (by kernel_rfl) (by kernel_rfl) (by kernel_rfl) (by kernel_rfl) (fun _ _ _ h => h) (Or.inl ⟨by rfl, fun w0 hS0 => ?_⟩) (by assumption) ?_
        · go_simp
        try simp only [Act.put, lt, l0, ls]
        refine B.Till.take (i := 4) (oi := ⟨some 29, .move (.tmp 5), 4, "roam.go:73", #[], none⟩) (v := .bool all) rfl (by kernel_rfl) (by kernel_rfl) (by kernel_rfl) (by kernel_rfl) (fun _ _ _ h => h) (Or.inl ⟨by rfl, fun w0 hS0 => ?_⟩) (by assumption) ?_
        · go_simp
        try simp only [Act.put, lt, l0, ls]
        refine B.Till.two (i := 3) (j := 6) (o := ⟨some 28, .call ⟨.value (.func 31), #[.tmp 27], #[3]⟩, 3, "roam.go:73", #[⟨2, .data⟩], none⟩) (o' := ⟨some 15, .alloc 95, 0, "roam.go:73", #[], none⟩) (by kernel_rfl) rfl rfl (fun K hK => ?_) (fun K hK => ?_)
        · go_simp
          refine (deepest_any most _).mono ?_
          rintro e w6 ⟨rfl, hw6⟩
          subst hw6
          go_wp2_with fail
          refine hK.out _ _ (fun _ => hHeld) ?_
          clear hK K
          try simp only [Act.put, lt, l0, ls]
          refine B.Till.take (i := 5) (oi := ⟨some 30, .build 95 #[(0, .tmp 25), (1, .tmp 26), (2, .tmp 28), (3, .tmp 29)], 95, "roam.go:73", #[⟨0, .data⟩, ⟨1, .data⟩, ⟨3, .data⟩, ⟨4, .data⟩], none⟩) (v := .agg #[.pointer (some ⟨p, 0, none⟩), .int .i64 u, .int .i64 g, .int .i64 (deepestI most), .bool all, .slice none 0 0, .slice none 0 0]) rfl (by kernel_rfl) (by kernel_rfl) (by kernel_rfl) (by kernel_rfl) (fun _ _ _ h => h) (Or.inl ⟨by rfl, fun w0 hS0 => ?_⟩) (by assumption) ?_
          · go_simp
          try simp only [Act.put, lt, l0, ls]
          refine B.Till.next (i := 6) (o := ⟨some 15, .alloc 95, 0, "roam.go:73", #[], none⟩) (by kernel_rfl) rfl (fun K hK => ?_)
          go_simp
          refine hK.out _ _ (fun _ => hHeld.alloc hHeld.size _) ?_
          clear hK K
          try simp only [Act.put, lt, l0, ls]
          refine B.Till.next (i := 7) (o := ⟨none, .store 95 (.tmp 15) (.tmp 30), 0, "roam.go:73", #[⟨6, .data⟩, ⟨5, .data⟩, ⟨3, .chain⟩, ⟨0, .phase⟩, ⟨1, .phase⟩, ⟨2, .phase⟩, ⟨3, .phase⟩, ⟨4, .phase⟩, ⟨5, .phase⟩, ⟨6, .phase⟩], none⟩) (by kernel_rfl) rfl (fun K hK => ?_)
          refine step_store_row rfl 95 (.tmp 15) (.tmp 30) rfl w1.heap.size #[.pointer (some ⟨p, 0, none⟩), .int .i64 u, .int .i64 g, .int .i64 (deepestI most), .bool all, .slice none 0 0, .slice none 0 0] rfl rfl 95 walkZ (heap_alloc_new _ _) sizeWalk rfl (walkC_one _ _ _ _ _) ?_
          refine hK.out _ _ (fun q => absurd rfl q) ?_
          clear hK K
          try simp only [Act.put, lt, l0, ls]
          refine B.Till.done (by kernel_rfl) ?_
          go_wp2_with fail
          go_meet
          exact ⟨w1.heap.size, rfl, setRow_heap _ _ _ _ _ _ (heap_alloc_new _ _), below_setRow (hHeld.alloc hHeld.size _) (Nat.le_refl _) _, Nat.le_refl _⟩
        · go_simp
          refine hK.out _ _ (fun _ => hHeld.alloc hHeld.size _) ?_
          clear hK K
          try simp only [Act.put, lt, l0, ls]
          have hH7 := hHeld.alloc hHeld.size (.cells walkZ 95)
          refine B.Till.next (i := 3) (o := ⟨some 28, .call ⟨.value (.func 31), #[.tmp 27], #[3]⟩, 3, "roam.go:73", #[⟨2, .data⟩], none⟩) (by kernel_rfl) rfl (fun K hK => ?_)
          go_simp
          refine (deepest_any most _).mono ?_
          rintro e w6 ⟨rfl, hw6⟩
          subst hw6
          go_wp2_with fail
          refine hK.out _ _ (fun _ => hH7) ?_
          clear hK K
          try simp only [Act.put, lt, l0, ls]
          refine B.Till.take (i := 5) (oi := ⟨some 30, .build 95 #[(0, .tmp 25), (1, .tmp 26), (2, .tmp 28), (3, .tmp 29)], 95, "roam.go:73", #[⟨0, .data⟩, ⟨1, .data⟩, ⟨3, .data⟩, ⟨4, .data⟩], none⟩) (v := .agg #[.pointer (some ⟨p, 0, none⟩), .int .i64 u, .int .i64 g, .int .i64 (deepestI most), .bool all, .slice none 0 0, .slice none 0 0]) rfl (by kernel_rfl) (by kernel_rfl) (by kernel_rfl) (by kernel_rfl) (fun _ _ _ h => h) (Or.inl ⟨by rfl, fun w0 hS0 => ?_⟩) (by assumption) ?_
          · go_simp
          try simp only [Act.put, lt, l0, ls]
          refine B.Till.next (i := 7) (o := ⟨none, .store 95 (.tmp 15) (.tmp 30), 0, "roam.go:73", #[⟨6, .data⟩, ⟨5, .data⟩, ⟨3, .chain⟩, ⟨0, .phase⟩, ⟨1, .phase⟩, ⟨2, .phase⟩, ⟨3, .phase⟩, ⟨4, .phase⟩, ⟨5, .phase⟩, ⟨6, .phase⟩], none⟩) (by kernel_rfl) rfl (fun K hK => ?_)
          refine step_store_row rfl 95 (.tmp 15) (.tmp 30) rfl w1.heap.size #[.pointer (some ⟨p, 0, none⟩), .int .i64 u, .int .i64 g, .int .i64 (deepestI most), .bool all, .slice none 0 0, .slice none 0 0] rfl rfl 95 walkZ (heap_alloc_new _ _) sizeWalk rfl (walkC_one _ _ _ _ _) ?_
          refine hK.out _ _ (fun q => absurd rfl q) ?_
          clear hK K
          try simp only [Act.put, lt, l0, ls]
          refine B.Till.done (by kernel_rfl) ?_
          go_wp2_with fail
          go_meet
          exact ⟨w1.heap.size, rfl, setRow_heap _ _ _ _ _ _ (heap_alloc_new _ _), below_setRow hH7 (Nat.le_refl _) _, Nat.le_refl _⟩
-- TILL 1 END
      case rest =>
        obtain ⟨b, rfl, hxb, hbw, hbl⟩ := hcut
        have HXw := Lib.hid hxb
        have HBw := Lib.hid (HB1.out.trans (hbw.mono HB1.out.size))
        have HLw := Lib.hid (Nat.le_trans HB1.out.size hbl)
        clear hxb hbw hbl HB1 HCr
        go_wp2_with fail
        refine (HOv.out _ HBw.out).mono ?_
        rintro e w7 ⟨rfl, rfl⟩
        go_wp2_with (refine wpList_store_row rfl 82 (.tmp 16) (.tmp 36) rfl w7.heap.size (visC (atV T (firstV id name))).toArray rfl rfl _ _ (heap_alloc_new _ _) sizeVis rfl (all_oneCell_toArray (visC_one _)) ?_; rw [World.setRow_alloc_new])
        go_step3
        refine then_normal ?_
        apply_assumption
        have HB8 := Lib.hid ((Below.refl w7.heap.size w7).alloc (Nat.le_refl _) (.cells (visC (atV T (firstV id name))).toArray 82))
        have HX8 := Lib.hid (heap_alloc_new w7 (.cells (visC (atV T (firstV id name))).toArray 82))
        have HW8 := Lib.hid (show Wk W0 (w7.heap.size + 1) w7.heap.size (visC (atV T (firstV id name))).toArray b p u g (deepestI most) all [] [] (.slice none 0 0) (.slice none 0 0) (w7.alloc (.cells (visC (atV T (firstV id name))).toArray 82)) from
          ⟨(HB8.out.block _ (B.heap_lt HXw.out)).trans HXw.out, World.ownsRow_nil _ _ _ _, World.ownsRow_nil _ _ _ _, (fun x hx => by cases hx), HBw.out.trans (HB8.out.mono HBw.out.size), HLw.out, HX8.out, by omega, by have := HBw.out.size; omega, by simp⟩)
        refine visit_part HT (R := w7.heap.size + 1) (nb := w7.heap.size) (b := b) (L := L) (most := most) HBw.out.size hL2 (by rw [HLe.out]; exact HNm.out) HEn.out ⟨_, _, rfl, rfl⟩ _ _ ?jw (fun l2 a2 w2 h2 _ => B.hops_goto ⟨_, _, _, HBw.out.size, by have := HBw.out.size; omega, h2⟩) (fun a2 w2 h2 => B.hops_ret (ret_fin HL.out (by have := HBw.out.size; omega) a2 w2 h2))
        case jw =>
          unfold JW
          (repeat apply Exists.intro)
          refine ⟨?rel, rfl⟩
          case rel => exact ⟨[], [], _, _, _, rfl, HW8, Lib.hid ⟨trivial, fun x hx => by cases hx⟩, .inr ⟨rfl, firstV id name, rfl, Lib.hid ⟨rfl, by rw [HLe.out]; exact (List.append_nil _).symm⟩⟩⟩
  · have HNd := Lib.hid (fun W hb => HT.node id W hb)
    have HLe := Lib.hid (show L = [] from by rw [← hL]; unfold walkL; rw [if_neg hE0])
    clear hL
    have e1 : (E id != 0) = true := by simpa using hE0
    have HB0 := Lib.hid ((Below.refl W0.heap.size W0).alloc (Nat.le_refl _) (.cells #[.int .i64 u, .int .i64 g] 50))
    clear hE0
    refine B.wp_scope_hops (fun _ _ _ => False) (fun _ _ _ => 0) (fun _ _ _ h => h.elim) ?_
    go_upto_region 1 with fail
    generalize W0.alloc (.cells #[.int .i64 u, .int .i64 g] 50) = wa at HB0 ⊢
    go_wp2_with fail
    refine (HNd.out _ HB0.out).mono ?_
    rintro e wb ⟨n, rfl, hk, hb⟩
    have HBb := Lib.hid (HB0.out.trans (hb.mono HB0.out.size))
    clear hb hk HB0 HNd
    unfold P.nodeV
    go_wp2_with (refine wpList_store_row rfl 36 (.tmp 13) (.tmp 21) rfl wb.heap.size (nodeC n) rfl rfl _ _ (heap_alloc_new _ _) sizeNode rfl (nodeC_one n) ?_; rw [World.setRow_alloc_new])
    refine B.hops_ret ?_
    go_ret
    exact ⟨_, rfl, by rw [HL.out, HLe.out]; exact World.ownsRow_nil _ _ _ _, HBb.out.alloc HBb.out.size _⟩
end
end Go.Proofs.YtpikndeefiediaaGreatDoor.G

namespace Go.Proofs.YtpikndeefiediaaGreatDoor.G
open List renaming setIfInBounds_toArray → lt, set_cons_zero → l0, set_cons_succ → ls
open Go.RowKit

theorem ents_rows : ∀ l : List Ent, V.entCells l = rowsC enC' l
  | [] => rfl
  | x :: r => by
    show Value.string x.1 :: Value.int .i64 x.2 :: V.entCells r = _
    rw [ents_rows r]
    rfl
theorem list_kind (M : List V.Nd) (i : Int) : (V.kindM M i = 2 → V.listE M i = 0 ∨ V.listE M i = 8) ∧ (V.kindM M i ≠ 2 → V.listE M i = 2 ∨ V.listE M i = 3) := by
  unfold V.kindM V.nvAt V.listE
  cases V.atM M i with
  | none => exact ⟨fun h => absurd h (by decide), fun _ => .inl rfl⟩
  | some n =>
    refine ⟨fun h => ?_, fun h => ?_⟩
    · have h : n.kind = 2 := h
      dsimp only
      rw [if_pos h]
      split
      · exact .inr rfl
      · exact .inl rfl
    · have h : ¬ n.kind = 2 := h
      dsimp only
      rw [if_neg h]
      exact .inr rfl
theorem shownB_all : ∀ l : List Ent, l.filter (shownB true) = l := fun l => List.filter_eq_self.2 fun _ _ => rfl
theorem shownB_keep (l : List Ent) : l.filter (shownB false) = keepL l := rfl
theorem keep_few (l : List Ent) : (keepL l).length ≤ l.length := List.length_filter_le _ _

set_option maxRecDepth 100000 in
set_option maxHeartbeats 8000000 in
theorem pshown_any {v0 : World} {M : List V.Nd} {p : Nat} (u g i : Int) (all : Bool) (w : World) (hf : V.Has v0 p M w) (ht : P.Tab w) (hn : 0 < M.length) (hS : ∀ n ∈ M, n.ents.length ≤ 1000) (R : V.RI M) :
    Calls Tryz.prog 51 #[.pointer (some ⟨p, 0, none⟩), P.credV u g, .int .i64 i, .bool all] w fun e w' => ∃ v, e = .returned (.tuple #[v, .int .i64 (shownE M u g i)]) ∧ (shownE M u g i = 0 → w'.ownsRow w.heap.size 45 2 v (shownL M all i).length (rowsC enC' (shownL M all i))) ∧ (shownE M u g i ≠ 0 → v = .slice none 0 0) ∧ Below w.heap.size w w' := by
  have hE : V.FewE M := fun n hn => by have := hS n hn; omega
  have HNd := Lib.hid (fun W (hb : Below w.heap.size w W) => V.has_nodeI i (hf.keep hb) hn)
  have HLs := Lib.hid (fun W (hb : Below w.heap.size w W) => V.has_list i (hf.keep hb) hn hE)
  simp only [V.nodeV_nv, V.known_nv] at HNd
  simp only [ents_rows] at HLs
  have HLt := Lib.hid (list_sub R i)
  have HLl := Lib.hid (show (V.listL M i).length ≤ 1000 from by
    unfold V.listL
    cases ha : V.atM M i with
    | none => exact Nat.zero_le _
    | some n =>
      obtain ⟨k, _, hk⟩ := V.atM_some ha
      have := hS n (List.mem_of_getElem? hk)
      dsimp only
      repeat' split
      all_goals first | exact Nat.zero_le _ | exact this)
  have HK := Lib.hid (list_kind M i)
  have HSh := Lib.hid (show shownE M u g i = if V.listE M i = 2 ∨ V.listE M i = 3 then V.listE M i else if P.mayB (P.bitsP (V.nvAt M i) u g) 5 = true then V.listE M i else 5 from rfl)
  have HSl := Lib.hid (show shownL M all i = sortE ((V.listL M i).filter (shownB all)) from rfl)
  have HT := Lib.hid ht
  have HKd := Lib.hid (show V.kindM M i = (V.nvAt M i).kind from rfl)
  clear hf ht hE hS
  obtain ⟨N, hN⟩ : ∃ N, V.nvAt M i = N := ⟨_, rfl⟩
  obtain ⟨le, hle⟩ : ∃ le, V.listE M i = le := ⟨_, rfl⟩
  obtain ⟨ll, hll⟩ : ∃ ll, V.listL M i = ll := ⟨_, rfl⟩
  rw [hN] at HNd HKd HSh
  rw [HKd.out, hle] at HK
  rw [hle] at HLs HSh
  rw [hll] at HLs HLt HLl HSl
  clear hN hle hll HKd
  obtain ⟨se, hse⟩ : ∃ se, shownE M u g i = se := ⟨_, rfl⟩
  obtain ⟨sl, hsl⟩ : ∃ sl, shownL M all i = sl := ⟨_, rfl⟩
  rw [hse] at HSh ⊢
  rw [hsl] at HSl ⊢
  clear hse hsl
  unfold P.credV
  go_enter Tryz.func51, Tryz.ntmps51
  go_upto_region 1 with fail
  have HB0 := Lib.hid ((Below.refl w.heap.size w).alloc (Nat.le_refl _) (.cells #[.int .i64 u, .int .i64 g] 50))
  have HX0 := Lib.hid (heap_alloc_new w (.cells #[.int .i64 u, .int .i64 g] 50))
  generalize w.alloc (.cells #[.int .i64 u, .int .i64 g] 50) = wa at HB0 HX0 ⊢
  go_wp2_with fail
  refine (HNd.out _ HB0.out).mono ?_
  rintro e wb ⟨rfl, hb⟩
  have HBb := Lib.hid (HB0.out.trans (hb.mono HB0.out.size))
  have HXb := Lib.hid ((hb.block _ (B.heap_lt HX0.out)).trans HX0.out)
  clear hb HB0 HX0 HNd
  go_upto_region 2 with (refine wpList_store_row rfl 36 (.tmp 10) (.tmp 18) rfl wb.heap.size (nodeC N) rfl rfl _ _ (heap_alloc_new _ _) sizeNode rfl (nodeC_one N) ?_; rw [World.setRow_alloc_new])
  have HA1 := Lib.hid ((Below.refl wb.heap.size wb).alloc (Nat.le_refl _) (.cells (nodeC N) 36))
  have HN1 := Lib.hid (heap_alloc_new wb (.cells (nodeC N) 36))
  generalize wb.alloc (.cells (nodeC N) 36) = w1 at HA1 HN1 ⊢
  have HB1 := Lib.hid (HBb.out.trans (HA1.out.mono HBb.out.size))
  have HX1 := Lib.hid ((HA1.out.block _ (B.heap_lt HXb.out)).trans HXb.out)
  clear HA1 HXb HBb
  generalize wb.heap.size = bn at HN1 ⊢
  go_wp2_with fail
  refine (HLs.out _ HB1.out).mono ?_
  rintro e w2 ⟨lv, rfl, hown, hb⟩
  have HB2 := Lib.hid (HB1.out.trans (hb.mono HB1.out.size))
  have HN2 := Lib.hid ((hb.block _ (B.heap_lt HN1.out)).trans HN1.out)
  have HX2 := Lib.hid ((hb.block _ (B.heap_lt HX1.out)).trans HX1.out)
  have HO2 := Lib.hid hown
  have HLw2 := Lib.hid HB1.out.size
  clear hb hown HB1 HN1 HX1 HLs
  generalize w1.heap.size = bl at HO2 HLw2
  go_upto_region 3 with fail
  have c2 : w2.cell? ⟨bn, 2, none⟩ = some (.int .i64 N.kind) := by rw [cell_of_row _ _ _ _ _ _ HN2.out]; rfl
  by_cases hk : N.kind = 2
  · have k2 : (N.kind == 2) = true := by rw [hk]; rfl
    have hl0 := HK.out.1 hk
    have h23 : ¬ (le = 2 ∨ le = 3) := by omega
    rw [if_neg h23] at HSh
    have HL0 := Lib.hid hl0
    have n0 : w2.cell? ⟨bn, 0, none⟩ = some (.int .i64 N.dev) := by rw [cell_of_row _ _ _ _ _ _ HN2.out]; rfl
    have n1 : w2.cell? ⟨bn, 1, none⟩ = some (.int .i64 N.ino) := by rw [cell_of_row _ _ _ _ _ _ HN2.out]; rfl
    have n3 : w2.cell? ⟨bn, 3, none⟩ = some (.int .i64 N.mode) := by rw [cell_of_row _ _ _ _ _ _ HN2.out]; rfl
    have n4 : w2.cell? ⟨bn, 4, none⟩ = some (.int .i64 N.uid) := by rw [cell_of_row _ _ _ _ _ _ HN2.out]; rfl
    have n5 : w2.cell? ⟨bn, 5, none⟩ = some (.int .i64 N.gid) := by rw [cell_of_row _ _ _ _ _ _ HN2.out]; rfl
    have n6 : w2.cell? ⟨bn, 6, none⟩ = some (.int .i64 N.size) := by rw [cell_of_row _ _ _ _ _ _ HN2.out]; rfl
    have n7 : w2.cell? ⟨bn, 7, none⟩ = some (.int .i64 N.blocks) := by rw [cell_of_row _ _ _ _ _ _ HN2.out]; rfl
    have n8 : w2.cell? ⟨bn, 8, none⟩ = some (.int .i64 N.links) := by rw [cell_of_row _ _ _ _ _ _ HN2.out]; rfl
    have n9 : w2.cell? ⟨bn, 9, none⟩ = some (.int .i64 N.ta) := by rw [cell_of_row _ _ _ _ _ _ HN2.out]; rfl
    have n10 : w2.cell? ⟨bn, 10, none⟩ = some (.int .i64 N.tb) := by rw [cell_of_row _ _ _ _ _ _ HN2.out]; rfl
    have n11 : w2.cell? ⟨bn, 11, none⟩ = some (.int .i64 N.tc) := by rw [cell_of_row _ _ _ _ _ _ HN2.out]; rfl
    have n12 : w2.cell? ⟨bn, 12, none⟩ = some (.string N.target) := by rw [cell_of_row _ _ _ _ _ _ HN2.out]; rfl
    have x0 : w2.cell? ⟨w.heap.size, 0, none⟩ = some (.int .i64 u) := by rw [cell_of_row _ _ _ _ _ _ HX2.out]; rfl
    have x1 : w2.cell? ⟨w.heap.size, 1, none⟩ = some (.int .i64 g) := by rw [cell_of_row _ _ _ _ _ _ HX2.out]; rfl
    have HM := Lib.hid (P.may_any N u g 5 w2 (HT.out.keep HB2.out))
    rw [V.known_nv] at HM
    unfold P.credV at HM
    clear hk hl0 h23
    go_wp2_with fail
    refine HM.out.mono ?_
    rintro e w3 ⟨rfl, hb⟩
    have HB3 := Lib.hid (HB2.out.trans (hb.mono HB2.out.size))
    have HO3 := Lib.hid (B.owns_to HO2.out hb)
    clear hb HM HO2 HB2 HN2 HX2 c2 x0 x1 n0 n1 n3 n4 n5 n6 n7 n8 n9 n10 n11 n12
    cases hm : P.mayB (P.bitsP N u g) 5 with
    | false =>
      rw [hm] at HSh
      clear hm
      have HSe := Lib.hid (show se = 5 from HSh.out)
      go_wp2_with fail
      go_ret2
      exact ⟨_, by rw [HSe.out]; rfl, fun q => absurd (HSe.out.symm.trans q) (by decide), fun _ => rfl, HB3.out⟩
    | true =>
      rw [hm] at HSh
      clear hm
      have HSe := Lib.hid (show se = le from HSh.out)
      clear HSh
      rcases HL0.out with h0 | h8
      · subst h0
        have HDf := Lib.hid HLt.out.1
        have HNm := Lib.hid (show ∀ e ∈ ll, e.1.size ≤ 60000 from fun e he => by have := (V.goodB_parts (HLt.out.2 e he).1).2.1; omega)
        cases all with
        | true =>
          clear HLt
          have HSo := Lib.hid (sorted_any _ ll bl w3 HO3.out HLl.out HDf.out HNm.out)
          go_wp2_with fail
          refine HSo.out.mono ?_
          rintro e w5 ⟨v5, rfl, hown, hb⟩
          have HO5 := Lib.hid (owns_lower hown (Nat.le_trans (Nat.le_refl _) HB3.out.size))
          have HB5 := Lib.hid (HB3.out.trans (hb.mono HB3.out.size))
          clear hown hb HSo
          go_wp2_with fail
          go_ret2
          exact ⟨_, by rw [HSe.out]; rfl, fun _ => by rw [HSl.out, shownB_all]; exact HO5.out, fun q => absurd HSe.out q, HB5.out⟩
        | false =>
          have HDl := Lib.hid (delete_any lv ll bl w w3 HO3.out (by have := HLl.out; omega) HLw2.out HB3.out)
          clear HLt
          go_wp2_with fail
          refine HDl.out.mono ?_
          rintro e w4 ⟨u4, rfl, hown4, hb4⟩
          have HO4 := Lib.hid hown4
          have HB4 := Lib.hid hb4
          clear hown4 hb4 HDl HO3 HB3
          have HSo := Lib.hid (sorted_any _ (keepL ll) bl w4 HO4.out (Nat.le_trans (keep_few ll) HLl.out) (List.Pairwise.filter _ HDf.out) (fun e he => HNm.out e (List.mem_filter.1 he).1))
          go_wp2_with fail
          refine HSo.out.mono ?_
          rintro e w5 ⟨v5, rfl, hown, hb⟩
          have HO5 := Lib.hid (owns_lower hown (Nat.le_trans (Nat.le_refl _) HB4.out.size))
          have HB5 := Lib.hid (HB4.out.trans (hb.mono HB4.out.size))
          clear hown hb HSo
          go_wp2_with fail
          go_ret2
          exact ⟨_, by rw [HSe.out]; rfl, fun _ => by rw [HSl.out, shownB_keep]; exact HO5.out, fun q => absurd HSe.out q, HB5.out⟩
      · have h1 : (le != 0) = true := by rw [h8]; rfl
        have HE := Lib.hid (show se = le ∧ le ≠ 0 from ⟨HSe.out, by omega⟩)
        clear h8
        go_wp2_with fail
        go_ret2
        exact ⟨_, by rw [HE.out.1]; rfl, fun q => absurd (HE.out.1.symm.trans q) HE.out.2, fun _ => rfl, HB3.out⟩
  · have k2 : (N.kind == 2) = false := beq_eq_false_iff_ne.2 hk
    have hl0 := HK.out.2 hk
    have h1 : (le != 0) = true := by rcases hl0 with h | h <;> (rw [h]; rfl)
    have HE := Lib.hid (show se = le ∧ le ≠ 0 from ⟨by rw [HSh.out, if_pos hl0], by rcases hl0 with h | h <;> omega⟩)
    clear hl0 hk
    go_wp2_with fail
    go_ret2
    exact ⟨_, by rw [HE.out.1]; rfl, fun q => absurd (HE.out.1.symm.trans q) HE.out.2, fun _ => rfl, HB2.out⟩
end Go.Proofs.YtpikndeefiediaaGreatDoor.G

namespace Go.Proofs.YtpikndeefiediaaGreatDoor.G
open List renaming setIfInBounds_toArray → lt, set_cons_zero → l0, set_cons_succ → ls
open Go.RowKit

def ModeM (M : List V.Nd) : Prop := ∀ n ∈ M, 0 ≤ n.mode ∧ n.mode < 4096
theorem mode_new : ModeM V.newM := fun n hn => by
  obtain rfl : n = V.addedNd (V.dirNd 493 0) 1 [] := by simpa [V.newM] using hn
  exact ⟨by decide, by decide⟩
theorem mode_mod {M : List V.Nd} {i : Nat} {f : V.Nd → V.Nd} (h : ModeM M) (hf : ∀ n : V.Nd, 0 ≤ n.mode ∧ n.mode < 4096 → 0 ≤ (f n).mode ∧ (f n).mode < 4096) : ModeM (M.modify i f) := V.all_modify h (fun _ h => h) hf
theorem mode_app {M : List V.Nd} {n : V.Nd} (h : ModeM M) (hn : 0 ≤ n.mode ∧ n.mode < 4096) : ModeM (M ++ [n]) := fun x hx => by
  rcases List.mem_append.1 hx with hx | hx
  · exact h x hx
  · obtain rfl := List.mem_singleton.1 hx; exact hn
theorem mode_built {M : List V.Nd} {i : Nat} {s : ByteArray} {n : V.Nd} {d : Int} (h : ModeM M) (hn : 0 ≤ n.mode ∧ n.mode < 4096) : ModeM (V.builtM M i s n d) :=
  mode_mod (mode_mod (mode_app h hn) fun _ h => h) fun _ h => h
theorem mode_do {M : List V.Nd} {c : V.Chg} (h : ModeM M) : ModeM (V.doM M c) := by
  have hm : 0 ≤ c.a % 4096 ∧ c.a % 4096 < 4096 := by omega
  unfold V.doM
  split
  · unfold V.carryM
    split
    · exact mode_built h hm
    · split
      · exact mode_built h hm
      · split
        · exact mode_mod (mode_mod h fun _ h => h) fun _ h => h
        · split
          · exact mode_built h ⟨show (0 : Int) ≤ 511 by decide, show (511 : Int) < 4096 by decide⟩
          · split
            · exact mode_mod (mode_app h hm) fun _ h => h
            · refine mode_mod h fun n hn => ?_
              unfold V.setNd
              repeat' split
              all_goals first | exact hm | exact hn
  · exact h
theorem runM_mode : ∀ (cs : List V.Chg) (M : List V.Nd), ModeM M → ModeM (V.runM cs M)
  | [], M, h => h
  | c :: r, M, h => runM_mode r (V.doM M c) (mode_do h)

/-- What the laws know of what few changes make. -/
structure Good (M : List V.Nd) : Prop where
  pos : 0 < M.length
  few : M.length ≤ 300
  ents : ∀ n ∈ M, n.ents.length ≤ 400
  mode : ModeM M
  ri : V.RI M
  ui : UI M
theorem good_run (cs : List V.Chg) (hl : cs.length ≤ 400) : Good (V.runM cs V.newM) := by
  have hs := V.runM_small cs V.newM 0 V.new_small
  exact ⟨V.runM_pos cs V.newM (by decide), hs.1, fun n hn => by have := (hs.2 n hn).2.2; omega, runM_mode cs V.newM mode_new, runM_ri cs V.newM V.ri_new V.devInv_new, runM_ui cs V.newM ui_new V.ri_new V.devInv_new⟩
theorem Good.walk {M : List V.Nd} (h : Good M) (u g : Int) (all : Bool) (most : Int) (v : Vis) (f : Nat) : (walkV (treeM M u g all) most f v).length ≤ 1 + 300 * 401 ∧ ∀ x ∈ walkV (treeM M u g all) most f v, x.name.size ≤ v.name.size + f * 256 := by
  have B := treeB h.ri h.ui u g all (E := 400) h.ents
  refine ⟨?_, walk_names (K := 255) (fun d e he => (V.goodB_parts (shown_good h.ri all d he).1).2.1) f v⟩
  have h1 := walk_few B most f v
  have h2 : M.length * (400 + 1) ≤ 300 * (400 + 1) := Nat.mul_le_mul_right _ h.few
  exact Nat.le_trans h1 (Nat.add_le_add_left h2 1)
theorem tel_any {v0 W0 : World} {M : List V.Nd} {p : Nat} (u g : Int) (all : Bool) (hf : V.Has v0 p M W0) (ht : P.Tab W0) (hG : Good M) : Tel (treeM M u g all) (V.nodeEr M) W0 p u g all := by
  refine ⟨fun i W hb => ?_, fun i W hb => ?_, fun i W hb => ?_⟩
  · refine (V.has_nodeI i (hf.keep hb) hG.pos).mono ?_
    rintro e w' ⟨rfl, hb'⟩
    refine ⟨V.nvAt M i, by rw [V.nodeV_nv], ?_, hb'⟩
    show ((V.nvAt M i).kind == 2) = decide ((V.nvAt M i).kind = 2)
    rw [Bool.eq_iff_iff, beq_iff_eq, decide_eq_true_eq]
  · refine (V.has_over i (hf.keep hb) hG.pos).mono ?_
    rintro e w' ⟨rfl, rfl⟩
    exact ⟨rfl, rfl⟩
  · refine (pshown_any u g i all W (hf.keep hb) (ht.keep hb) hG.pos (fun n hn => by have := hG.ents n hn; omega) hG.ri).mono ?_
    rintro e w' ⟨v, rfl, h1, _, h2⟩
    exact ⟨v, rfl, h1, h2⟩
/-- What roam.Walk returns of what few changes make. -/
theorem walkM_any {v0 W0 : World} {M : List V.Nd} {p : Nat} (u g : Int) (all : Bool) (hf : V.Has v0 p M W0) (ht : P.Tab W0) (hG : Good M) (most id : Int) (name : ByteArray) (hn : name.size ≤ 300) :
    Calls Tryz.prog 19 #[.pointer (some ⟨p, 0, none⟩), P.credV u g, .int .i64 id, .string name, .int .i64 most, .bool all] W0 (WalkP (treeM M u g all) (V.nodeEr M) most id name W0) := by
  have hw := hG.walk u g all most (firstV id name) 101
  refine pwalk_any (tel_any u g all hf ht hG) ?_ ?_ ?_
  · show (walkV (treeM M u g all) most 101 (firstV id name)).length ≤ _
    omega
  · intro x hx
    have := hw.2 x hx
    have e : (firstV id name).name = name := rfl
    rw [e] at this
    omega
  · intro d e he
    have := (V.goodB_parts (shown_good hG.ri all d he).1).2.1
    omega
end Go.Proofs.YtpikndeefiediaaGreatDoor.G
