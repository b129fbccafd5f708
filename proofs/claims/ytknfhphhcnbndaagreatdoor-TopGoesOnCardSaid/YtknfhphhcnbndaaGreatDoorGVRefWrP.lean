/-
  What the reference's Good returns; that the law VfsNames returns true. Conditions: none.
  What the reference's New makes: one first directory. No conditions.
  What the reference's wrong looks at: its own box, the change's box, the six slices. Conditions: each fact's own.
  What the reference's wrong leans on. Conditions: at most 1000000 nodes and entries, texts of at most 1000000 bytes.
-/
import Derived.Test.YtknfhphhcnbndaaGreatDoorGVAsk
import Derived.Test.YtknfhphhcnbndaaGreatDoorGVRefDev
import Derived.Deep.CutRange
import Derived.Deep.DeepCutAuto
set_option linter.unusedSimpArgs false
set_option linter.unusedVariables false
namespace Go.Proofs.YtknfhphhcnbndaaGreatDoor.V
open Go.RowKit

def RefRel (s : ByteArray) (w : World) (v : Value) (wr : World) : Prop := ∃ k : Nat, k ≤ s.size ∧ v = .int .i64 (k : Int) ∧ wr = w ∧ Lib.NoAny s.data.toList hardL k
theorem goodB_hit {s : ByteArray} (h : 0 ≤ Lib.indexAny s.data.toList hardL) : goodB s = false := by
  unfold goodB
  rw [decide_eq_true h]
  simp
theorem goodB_none {s : ByteArray} (h : Lib.indexAny s.data.toList hardL = -1) : goodB s = (decide (0 < s.size) && (decide (s.size < 256) && (!(s.toList == [46]) && !(s.toList == [46, 46])))) := by
  unfold goodB
  rw [h]
  have e1 : decide (1 ≤ s.size) = decide (0 < s.size) := by congr 1
  have e2 : decide (s.size ≤ 255) = decide (s.size < 256) := by congr 1; exact propext ⟨fun _ => by omega, fun _ => by omega⟩
  rw [e1, e2]
  simp

set_option maxRecDepth 100000 in
set_option maxHeartbeats 4000000 in
theorem refGood_any (s : ByteArray) (w : World) (hs : s.size ≤ 1000000) :
    Calls Tryz.prog 144 #[.string s] w fun e w' => e = .returned (.bool (goodB s)) ∧ w = w' := by
  go_enter Tryz.func144, Tryz.ntmps144
  go_wp2
  go_loopw [3] (RefRel s w) (fun v _ => s.size - (intOf v).toNat)
  case atStart => exact ⟨0, Nat.zero_le _, rfl, rfl, Lib.NoAny.zero _ _⟩
  case round =>
    obtain ⟨k, hk, rfl, rfl, hn⟩ := hrel
    have HN := Lib.hid hn
    clear hn
    by_cases hlt : k < s.size
    · have hat : s.data.toList[k]? = some (s[k]'hlt) := Lib.data_getElem? s k hlt
      have HAT := Lib.hid hat
      clear hat
      by_cases h0 : (s[k]'hlt) = 0
      · have d0 : (((s[k]'hlt).toNat : Int) == 0) = true := by rw [h0]; rfl
        have HR := Lib.hid (goodB_hit (s := s) (by rw [Lib.indexAny_hit HN.out HAT.out (hard_of.2 (.inl h0))]; omega))
        clear h0
        go_wp2
        go_ret
        exact ⟨ret_bool HR.out.symm, rfl⟩
      · have hne0 : ¬ ((s[k]'hlt).toNat : Int) = 0 := fun e => h0 (UInt8.toNat_inj.1 (by simpa using e))
        have d0 : (((s[k]'hlt).toNat : Int) == 0) = false := by simpa using hne0
        by_cases h1 : (s[k]'hlt) = 47
        · have d1 : (((s[k]'hlt).toNat : Int) == 47) = true := by rw [h1]; rfl
          have HR := Lib.hid (goodB_hit (s := s) (by rw [Lib.indexAny_hit HN.out HAT.out (hard_of.2 (.inr h1))]; omega))
          clear h0 h1 hne0
          go_wp2
          go_ret
          exact ⟨ret_bool HR.out.symm, rfl⟩
        · have e47 : (47 : UInt8).toNat = 47 := rfl
          have hne1 : ¬ ((s[k]'hlt).toNat : Int) = 47 := by
            intro e
            apply h1
            apply UInt8.toNat_inj.1
            rw [e47]
            omega

          have d1 : (((s[k]'hlt).toNat : Int) == 47) = false := by simpa using hne1
          have hc : hardL.contains (s[k]'hlt) = false := by
            rw [← Bool.not_eq_true, hard_of]
            exact fun e => e.elim h0 h1
          have R := Lib.hid (HN.out.succ HAT.out hc)
          clear h0 h1 hne0 hne1 hc
          go_wp2
          go_roundw
          case rel => exact ⟨k + 1, by omega, by simp, rfl, R.out⟩
          case measure => simp [intOf]; omega
    · have hno := Lib.hid (show Lib.indexAny s.data.toList hardL = -1 from Lib.indexAny_none (by rw [← Lib.size_eq, show s.size = k by omega]; exact HN.out))
      have HG := Lib.hid (goodB_none hno.out)
      by_cases z0 : 0 < s.size
      · by_cases z1 : s.size < 256
        · cases e1 : s.toList == [46] with
          | true =>
            have n1 : (s.toList != [46]) = false := by simp [bne, e1]
            have HE := Lib.hid e1
            clear e1
            go_wp2
            all_goals go_ret
            all_goals exact ⟨ret_bool (by rw [HG.out, HE.out]; simp), rfl⟩
          | false =>
            have n1 : ¬ s.toList = [46] := by simpa using e1
            have HE := Lib.hid e1
            clear e1
            cases e2 : s.toList == [46, 46] with
            | true =>
              have n2 : (s.toList != [46, 46]) = false := by simp [bne, e2]
              have HE2 := Lib.hid e2
              clear e2
              go_wp2
              all_goals go_ret
              all_goals exact ⟨ret_bool (by rw [HG.out, HE.out, HE2.out]; simp), rfl⟩
            | false =>
              have n2 : ¬ s.toList = [46, 46] := by simpa using e2
              have HE2 := Lib.hid e2
              clear e2
              go_wp2
              all_goals go_ret
              all_goals exact ⟨ret_bool (by rw [HG.out, HE.out, HE2.out, decide_eq_true z0, decide_eq_true z1]; rfl), rfl⟩
        · go_wp2
          all_goals go_ret
          all_goals exact ⟨ret_bool (by rw [HG.out, decide_eq_false z1]; simp), rfl⟩
      · go_wp2
        all_goals go_ret
        all_goals exact ⟨ret_bool (by rw [HG.out, decide_eq_false z0]; simp), rfl⟩
end Go.Proofs.YtknfhphhcnbndaaGreatDoor.V

namespace Go.Proofs.YtknfhphhcnbndaaGreatDoor.V
open Go.RowKit

def nilRv : Rv := ⟨.slice none 0 0, .slice none 0 0, .slice none 0 0, .slice none 0 0, .slice none 0 0, .slice none 0 0⟩
theorem nil_rown (w : World) : ROwn w nilRv ([] : List Nd).length (bares []) ([] : List It).length (itCells []) ([] : List Nd).length (covs [] 0) ([] : List Nd).length (deads []) ([] : List Nd).length (ups []) ([] : List Int).length (ints []) := by
  have h : ∀ (e : TypeId) (s : Nat), w.ownsRow 0 e s (.slice none 0 0) 0 [] := fun e s => World.ownsRow_nil w 0 e s
  exact ⟨h _ _, h _ _, h _ _, h _ _, h _ _, h _ _⟩

set_option maxRecDepth 100000 in
set_option maxHeartbeats 4000000 in
theorem rnew_any (w : World) :
    Calls Tryz.prog 40 #[] w fun e w' => ∃ v', e = .returned (rvV v') ∧ ROwn w' v' 1 (addedNd (dirAt 1 493 0) 1 []).bare 0 [] 1 [.int .i64 (-1)] 1 [.bool false] 1 [.int .i64 0] 1 [.int .i64 0] ∧ Below w.heap.size w w' := by
  have q0 := heap_alloc_new w (.cells nilsR 31)
  have B0 := (Below.refl w.heap.size w).alloc (Nat.le_refl _) (.cells nilsR 31)
  unfold nilsR at q0 B0
  go_enter Tryz.func40, Tryz.ntmps40
  go_wp2_with (first
    | (go_at_call 86; refine (rdev_any [] [] nilRv 493 0 _ [] (nil_rown _) (by decide) (by decide)).mono ?_; rintro e w3 ⟨v3, rfl, ho3, hb3⟩; have HS3 := Lib.hid ((hb3.block _ (heap_lt q0)).trans q0); have HBL := Lib.hid (below_two B0 hb3); have HN3 := Lib.hid (rv_one ho3); have HO3 := Lib.hid ho3; clear ho3 hb3 q0 B0)
    | (refine wpList_store_row rfl 31 (.tmp 0) (.tmp 2) rfl w.heap.size #[v3.n, v3.l, v3.c, v3.d, v3.a, v3.f] rfl rfl 31 nilsR HS3.out sizeRef rfl HN3.out ?_))
  have hb := but_setRow HS3.out #[v3.n, v3.l, v3.c, v3.d, v3.a, v3.f]
  refine bodyPost_ret (v := rvV v3) ?_ rfl ⟨v3, rfl, ?_, ?_⟩
  · exact results_cell_row Tryz.results40 _ _ w.heap.size _ _ _ _ rfl (setRow_heap _ _ _ _ _ _ HS3.out) Tryz.underlying31 rfl (by rw [sizeRef]; rfl)
  · exact hb.rown HS3.out HO3.out
  · exact hb.below HBL.out (Nat.le_refl _) HBL.out.size
end Go.Proofs.YtknfhphhcnbndaaGreatDoor.V

namespace Go.Proofs.YtknfhphhcnbndaaGreatDoor.V
open Go.RowKit

/-- In w the reference's box lies where W ended, the change's behind it; nothing of W has changed. -/
structure WIn (W : World) (v : Rv) (c : Chg) (w : World) : Prop where
  box : w.heap[W.heap.size]? = some (.cells #[v.n, v.l, v.c, v.d, v.a, v.f] 31)
  chg : w.heap[W.heap.size + 1]? = some (chgBox c)
  below : Below W.heap.size W w
theorem WIn.begin (W : World) (v : Rv) (c : Chg) : WIn W v c ((W.alloc (.cells #[v.n, v.l, v.c, v.d, v.a, v.f] 31)).alloc (chgBox c)) := by
  have h1 := heap_alloc_new (W.alloc (.cells #[v.n, v.l, v.c, v.d, v.a, v.f] 31)) (chgBox c)
  have h2 := (Below.refl (W.alloc (.cells #[v.n, v.l, v.c, v.d, v.a, v.f] 31)).heap.size (W.alloc (.cells #[v.n, v.l, v.c, v.d, v.a, v.f] 31))).alloc (Nat.le_refl _) (chgBox c)
  refine ⟨?_, by simpa using h1, ((Below.refl _ _).alloc (Nat.le_refl _) _).alloc (by simp) _⟩
  rw [h2.block _ (by simp)]
  exact heap_alloc_new _ _
theorem WIn.keep {W : World} {v : Rv} {c : Chg} {w w' : World} (h : WIn W v c w) (hb : Below w.heap.size w w') : WIn W v c w' :=
  ⟨box_keep2 h.box hb, box_keep2 h.chg hb, below_two h.below hb⟩
theorem WIn.drewN {W : World} {v : Rv} {c : Chg} {w : World} (h : WIn W v c w) (n : Nat) : WIn W v c (w.drewN n) := ⟨h.box, h.chg, below_drewN' h.below⟩
theorem WIn.cells {W : World} {v : Rv} {c : Chg} {w : World} (h : WIn W v c w) :
    w.cell? ⟨W.heap.size, 0, none⟩ = some v.n ∧ w.cell? ⟨W.heap.size, 1, none⟩ = some v.l ∧ w.cell? ⟨W.heap.size, 2, none⟩ = some v.c ∧ w.cell? ⟨W.heap.size, 3, none⟩ = some v.d ∧ w.cell? ⟨W.heap.size, 4, none⟩ = some v.a ∧ w.cell? ⟨W.heap.size, 5, none⟩ = some v.f := by
  refine ⟨?_, ?_, ?_, ?_, ?_, ?_⟩ <;> (rw [cell_of_row _ _ _ _ _ _ h.box]; rfl)
def itHas (L : List It) (a : Int) (s : ByteArray) : Bool := L.any fun x => x.at_ == a && sameT x.name s
theorem itHas_yes {L : List It} {a : Int} {s : ByteArray} {k : Nat} {x : It} (hx : L[k]? = some x) (h1 : (x.at_ == a) = true) (h2 : sameT x.name s = true) : itHas L a s = true :=
  List.any_eq_true.2 ⟨x, List.mem_of_getElem? hx, by rw [h1, h2]; rfl⟩
theorem itHas_no {L : List It} {a : Int} {s : ByteArray} (h : ∀ (k : Nat) (x : It), L[k]? = some x → (x.at_ == a && sameT x.name s) = false) : itHas L a s = false := by
  cases hh : itHas L a s with
  | false => rfl
  | true =>
    obtain ⟨x, hx, hxx⟩ := List.any_eq_true.1 hh
    obtain ⟨k, hk⟩ := List.mem_iff_getElem?.1 hx
    rw [h k x hk] at hxx
    cases hxx
theorem atM_none_dec {M : List Nd} {i : Int} (h : atM M i = none) : decide (0 ≤ i ∧ i < (M.length : Int)) = false := by
  unfold atM at h
  split at h
  · rename_i hh
    have : i.toNat < M.length := by omega
    rw [List.getElem?_eq_getElem this] at h
    cases h
  · exact decide_eq_false (by assumption)
theorem atM_some_dec {M : List Nd} {i : Int} {n : Nd} (h : atM M i = some n) : decide (0 ≤ i ∧ i < (M.length : Int)) = true := by
  unfold atM at h
  split at h
  · exact decide_eq_true (by assumption)
  · cases h
/-- What the reference's slices give in a world behind w. -/
theorem Rs.at_ {M : List Nd} {L : List It} {v : Rv} {w : World} (H : Rs M L v w) (hn : 0 < M.length) :
    ∃ gn cn al cl gc cc ad cd aa ca af cf, v = ⟨.slice (some ⟨gn, 0, none⟩) M.length cn, .slice al L.length cl, .slice (some ⟨gc, 0, none⟩) M.length cc, .slice ad M.length cd, .slice aa M.length ca, .slice af (devL M 0).length cf⟩ := by
  obtain ⟨an, cn, al, cl, ac, cc, ad, cd, aa, ca, af, cf, rfl⟩ := H.forms
  obtain ⟨gn, cn', e1, _, _⟩ := owns_some H.hn hn
  obtain ⟨gc, cc', e2, _, _⟩ := owns_some H.hc hn
  simp only [Value.slice.injEq, true_and] at e1 e2
  obtain ⟨rfl, rfl⟩ := e1
  obtain ⟨rfl, rfl⟩ := e2
  exact ⟨gn, cn, al, cl, gc, cc, ad, cd, aa, ca, af, cf, rfl⟩
theorem Rs.node_cell {M : List Nd} {L : List It} {gn cn : Nat} {l c d a f : Value} {w : World} (H : Rs M L ⟨.slice (some ⟨gn, 0, none⟩) M.length cn, l, c, d, a, f⟩ w) {i : Nat} {x : Nd} (hx : M[i]? = some x) {k : Nat} (hk : k < 13) {u : Value} (hu : x.bare[k]? = some u) :
    w.cell? ⟨gn, i * 13 + k, none⟩ = some u := owns_cell H.hn ((bares_get M i k x hx hk).trans hu)
theorem Rs.item_cell {M : List Nd} {L : List It} {n c d a f : Value} {al : Option Addr} {cl : Nat} {w : World} (H : Rs M L ⟨n, .slice al L.length cl, c, d, a, f⟩ w) {k : Nat} {x : It} (hx : L[k]? = some x) :
    ∃ gl, al = some ⟨gl, 0, none⟩ ∧ w.cell? ⟨gl, k * 3, none⟩ = some (.int .i64 x.at_) ∧ w.cell? ⟨gl, k * 3 + 1, none⟩ = some (.string x.name) ∧ w.cell? ⟨gl, k * 3 + 2, none⟩ = some (.int .i64 x.id) := by
  have hl : 0 < L.length := by have := (List.getElem?_eq_some_iff.1 hx).1; omega
  obtain ⟨gl, cl', e, _, _⟩ := owns_some H.hl hl
  simp only [Value.slice.injEq, true_and] at e
  obtain ⟨rfl, rfl⟩ := e
  obtain ⟨a1, a2, a3⟩ := itCells_get L k x hx
  exact ⟨gl, rfl, owns_cell H.hl a1, owns_cell H.hl a2, owns_cell H.hl a3⟩
theorem Rs.cov_cell {M : List Nd} {L : List It} {gc cc : Nat} {n l d a f : Value} {w : World} (H : Rs M L ⟨n, l, .slice (some ⟨gc, 0, none⟩) M.length cc, d, a, f⟩ w) {i : Nat} {x : Nd} (hx : M[i]? = some x) :
    w.cell? ⟨gc, i, none⟩ = some (.int .i64 (cov i x)) := owns_cell H.hc (by have := covs_get M 0 i x hx; rw [Nat.zero_add] at this; exact this)
end Go.Proofs.YtknfhphhcnbndaaGreatDoor.V

namespace Go.Proofs.YtknfhphhcnbndaaGreatDoor.V
open Go.RowKit

theorem wrong_pass {M : List Nd} {c : Chg} (k0 : 0 ≤ c.kind) (k3 : c.kind < 4) (h : entryE (atM M) c = 0) : wrongM M c = if makesB c.kind = true ∧ 300 ≤ M.length then 9 else 0 := by
  have hb : baseE (atM M) c = 0 := by unfold baseE; rw [if_pos ⟨k0, by omega⟩]; exact h
  unfold wrongM refuseE
  rw [hb]
  by_cases hh : makesB c.kind = true ∧ 300 ≤ M.length
  · rw [if_pos ⟨rfl, hh.1, hh.2⟩, if_pos hh]
  · rw [if_neg (fun e => hh e.2), if_neg hh]
theorem textB_zero {s : ByteArray} {k : Nat} (h : s.data.toList[k]? = some 0) : textB s = false := by
  unfold textB
  have : ¬ Lib.indexByte s.data.toList 0 < 0 := fun e => by
    have g := Lib.indexByte_ge s.data.toList 0
    exact Lib.indexByte_none (show Lib.indexByte s.data.toList 0 = -1 by omega) k h
  rw [decide_eq_false this]
  simp
theorem textB_none {s : ByteArray} (h : ∀ k : Nat, s.data.toList[k]? ≠ some 0) : textB s = (decide (1 ≤ s.size) && decide (s.size ≤ 4096)) := by
  unfold textB
  have : Lib.indexByte s.data.toList 0 < 0 := by
    apply Classical.byContradiction
    intro e
    obtain ⟨o, ho⟩ : ∃ o : Nat, Lib.indexByte s.data.toList 0 = o := ⟨(Lib.indexByte s.data.toList 0).toNat, by omega⟩
    exact h o (Lib.indexByte_some ho).1
  rw [decide_eq_true this]
  simp
def TLoop (W : World) (v : Rv) (c : Chg) (i : Value) (w : World) : Prop :=
  ∃ k : Nat, k ≤ c.text.size ∧ i = .int .i64 (k : Int) ∧ WIn W v c w ∧ Hid (∀ j : Nat, j < k → c.text.data.toList[j]? ≠ some 0)

def WLoop (W : World) (v : Rv) (c : Chg) (L : List It) (i : Value) (w : World) : Prop :=
  ∃ k : Nat, k ≤ L.length ∧ i = .int .i64 (k : Int) ∧ WIn W v c w ∧ Hid (∀ (j : Nat) (x : It), j < k → L[j]? = some x → (x.at_ == c.at_ && sameT x.name c.name) = false)

theorem wrong_lt {M : List Nd} {c : Chg} {e : Int} (k0 : 0 ≤ c.kind) (k3 : c.kind < 4) (h : entryE (atM M) c = e) (he : e ≠ 0) : wrongM M c = e := by
  have hb : baseE (atM M) c = e := by unfold baseE; rw [if_pos ⟨k0, by omega⟩]; exact h
  unfold wrongM refuseE
  rw [hb, if_neg (fun x => he x.1)]

end Go.Proofs.YtknfhphhcnbndaaGreatDoor.V
