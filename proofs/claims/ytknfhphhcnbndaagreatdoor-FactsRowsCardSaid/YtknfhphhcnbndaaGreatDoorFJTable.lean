/-
  What facts' align does to a column, and what facts' line returns of a place. Conditions: the columns lie in memory; texts of at most 10000 bytes in the columns that are aligned, of at most 2000000 elsewhere.
  What facts.Table returns: a table's lines. Conditions: the rows lie in memory, at most 1000 of them, texts of at most 1000000 bytes; the table of powers of ten lies.
-/
import Derived.Test.YtknfhphhcnbndaaGreatDoorFJCols
import Derived.Test.YtknfhphhcnbndaaGreatDoorFFormat
set_option linter.unusedVariables false
set_option linter.unusedSimpArgs false
namespace Go.Proofs.YtknfhphhcnbndaaGreatDoor.J
open List renaming setIfInBounds_toArray → lt, set_cons_zero → l0, set_cons_succ → ls
open Go.Proofs.YtknfhphhcnbndaaGreatDoor.B
open Go.RowKit

/-- How wide a list of texts is. -/
def wideB (l : List ByteArray) : Nat := l.foldl (fun m s => max m s.size) 0
theorem wideB_snoc (l : List ByteArray) (s : ByteArray) : wideB (l ++ [s]) = max (wideB l) s.size := by
  unfold wideB
  rw [List.foldl_append]
  rfl
theorem wideB_is (rs : List Row6) (c : Nat) : wideB (rs.map fun r => r c) = wideJ rs c := by
  unfold wideB wideJ
  rw [List.foldl_map]
theorem wideB_le {l : List ByteArray} {K : Nat} (h : ∀ s ∈ l, s.size ≤ K) : wideB l ≤ K := by
  have key : ∀ (l : List ByteArray) (m : Nat), m ≤ K → (∀ s ∈ l, s.size ≤ K) → l.foldl (fun m s => max m s.size) m ≤ K := fun l => by
    induction l with
    | nil => intro m h _; exact h
    | cons x t ih =>
      intro m hm h
      rw [List.foldl_cons]
      exact ih _ (Nat.max_le.2 ⟨hm, h x List.mem_cons_self⟩) fun r hr => h r (List.mem_cons_of_mem _ hr)
  exact key l 0 (Nat.zero_le _) h
/-- The first i texts of a column aligned. -/
def padsL (c W : Nat) (l : List ByteArray) (i : Nat) : List ByteArray := (l.take i).map (padL c W) ++ l.drop i
theorem pads_zero (c W : Nat) (l : List ByteArray) : padsL c W l 0 = l := rfl
theorem pads_all (c W : Nat) (l : List ByteArray) : padsL c W l l.length = l.map (padL c W) := by
  unfold padsL
  rw [List.take_length, List.drop_length, List.append_nil]
theorem pads_len (c W : Nat) (l : List ByteArray) (i : Nat) : (padsL c W l i).length = l.length := by
  unfold padsL
  rw [List.length_append, List.length_map, List.length_take, List.length_drop]
  omega
theorem pads_at {c W : Nat} {l : List ByteArray} {i : Nat} {s : ByteArray} (h : l[i]? = some s) : (padsL c W l i)[i]? = some s := by
  have hi := (List.getElem?_eq_some_iff.1 h).1
  unfold padsL
  have e : ((l.take i).map (padL c W)).length = i := by rw [List.length_map, List.length_take]; omega
  rw [List.getElem?_append_right (by omega), e, Nat.sub_self, List.getElem?_drop, Nat.add_zero, h]
theorem pads_step {c W : Nat} {l : List ByteArray} {i : Nat} {s : ByteArray} (h : l[i]? = some s) : (padsL c W l i).set i (padL c W s) = padsL c W l (i + 1) := by
  obtain ⟨hi, hs⟩ := List.getElem?_eq_some_iff.1 h
  have e : ((l.take i).map (padL c W)).length = i := by rw [List.length_map, List.length_take]; omega
  unfold padsL
  rw [List.set_append_right _ _ (by omega), e, Nat.sub_self, List.drop_eq_getElem_cons hi, List.set_cons_zero, List.take_succ_eq_append_getElem hi, List.map_append, List.append_assoc, hs]
  rfl
theorem arr6 (b c : Nat) (w : World) (hc : c < 6) : (Instr.indexAt 110 (.pointer (some ⟨b, 0, none⟩)) (.int .i64 (c : Int))).run Tryz.prog w = .ok (.pointer (some ⟨b, c, none⟩)) w := by
  have hu : Tryz.prog.underlying 110 = some (.array (Tryz.prog.arrayLen 110) (Tryz.prog.elem 110)) := by kernel_rfl
  have hl : Tryz.prog.arrayLen 110 = 6 := by kernel_rfl
  have hs : ∀ W : World, (sizeOf (Tryz.prog.elem 110)).run Tryz.prog W = .ok 1 W := fun W => by kernel_rfl
  rw [run_indexAt_array _ _ _ _ _ hu, hl, if_pos ⟨by omega, by omega⟩, hs]
  show Result.ok _ w = _
  rw [Addr.add_mid, Int.toNat_natCast, Nat.mul_one, Nat.zero_add]
theorem exec_arrT {o : Oper} {a : Act} {w : World} (x i : Operand) (ho : o.op = .indexAddr 106 x i) (b c : Nat) (hc : c < 6) (hx : a.eval x = .pointer (some ⟨b, 0, none⟩)) (hi : a.eval i = .int .i64 (c : Int)) : (execOp a.eval o).run Tryz.prog w = .ok (.value (.pointer (some ⟨b, c, none⟩))) w := by
  simp [execOp, ho, hx, hi, arrT b c w hc, Result.andThen]
def WiRel (l : List ByteArray) (w : World) (v4 v17 : Value) (wr : World) : Prop := ∃ k : Nat, k ≤ l.length ∧ v17 = .int .i64 (k : Int) ∧ v4 = .int .i64 (wideB (l.take k) : Int) ∧ wr = w
def AlRel (Bs T : Nat) (G C : Nat → Nat) (X : Nat → List ByteArray) (c W : Nat) (w0 : World) (v : Value) (wr : World) : Prop :=
  ∃ k : Nat, k ≤ (X c).length ∧ v = .int .i64 (k : Int) ∧ Hid (Cols Bs T G C (up X c (padsL c W (X c) k)) wr) ∧ Hid (Below Bs w0 wr)
theorem take_by {l : List ByteArray} {k : Nat} {s : ByteArray} (h : l[k]? = some s) : l.take (k + 1) = l.take k ++ [s] := by
  obtain ⟨hk, he⟩ := List.getElem?_eq_some_iff.1 h
  rw [List.take_succ_eq_append_getElem hk, he]

set_option maxRecDepth 100000 in
set_option maxHeartbeats 16000000 in
theorem align_any {Bs T : Nat} {G C : Nat → Nat} {X : Nat → List ByteArray} (c : Nat) (hc : c < 6) (w0 w : World) (hC : Cols Bs T G C X w) (hb : Below Bs w0 w) (hX : c < 5 → ∀ s ∈ X c, s.size ≤ 100) (hl : (X c).length ≤ 1000000) (hn : 0 < (X c).length) :
    Calls Tryz.prog 49 #[.pointer (some ⟨T, 0, none⟩), .int .i64 (c : Int)] w fun e w' => e = .returned (.tuple #[]) ∧ Cols Bs T G C (up X c ((X c).map (padL c (wideB (X c))))) w' ∧ Below Bs w0 w' := by
  have HC0 := Lib.hid hC
  have HB0 := Lib.hid hb
  by_cases h5 : c = 5
  · have d0 : ((c : Int) == 5) = true := beq_iff_eq.2 (by omega)
    have HE := Lib.hid (show Cols Bs T G C (up X c ((X c).map (padL c (wideB (X c))))) w from hC.congr fun d hd => by
      unfold up
      by_cases h : d = c
      · rw [if_pos h, h]
        have e : padL c (wideB (X c)) = id := by
          funext s
          unfold padL
          rw [if_neg (by omega), if_neg (by omega)]
          rfl
        rw [e, List.map_id]
      · rw [if_neg h])
    clear hC hb h5
    go_enter Tryz.func49, Tryz.ntmps49
    go_wp2_with fail
    exact bodyPost_ret (v := .tuple #[]) (by simp [results, Tryz.results49, go_sem]) rfl ⟨rfl, HE.out, HB0.out⟩
  · have d0 : ((c : Int) == 5) = false := beq_eq_false_iff_ne.2 (by omega)
    have hc5 : c < 5 := by omega
    have HXs := Lib.hid (hX (by omega))
    obtain ⟨l, hlX⟩ : ∃ l, X c = l := ⟨_, rfl⟩
    have HlX := Lib.hid hlX
    have HW := Lib.hid (show wideB l ≤ 100 from by rw [← hlX]; exact wideB_le HXs.out)
    rw [hlX] at HXs hl hn
    have hT := (hC.cell hc).1
    unfold slJ at hT
    rw [hlX] at hT ⊢
    have harr := fun w => arrT T c w hc
    have HOw := Lib.hid (hC.own c hc)
    clear hC hb hX hlX h5
    go_enter Tryz.func49, Tryz.ntmps49
    go_upto_region 3 with fail
    go_loopw [4, 17] (WiRel l w) (fun _ v _ => l.length - (intOf v).toNat)
    case atStart => exact ⟨0, Nat.zero_le _, rfl, rfl, rfl⟩
    case round =>
      obtain ⟨k, hk, rfl, rfl, rfl⟩ := hrel
      by_cases hlt : k < l.length
      · have d1 : decide ((k : Int) < (l.length : Int)) = true := decide_eq_true (by omega)
        obtain ⟨s, hs⟩ : ∃ s, l[k]? = some s := ⟨_, List.getElem?_eq_getElem hlt⟩
        have hcs := (HC0.out.text hc (i := k) (s := s) (by rw [HlX.out]; exact hs)).1
        have HTk := Lib.hid (show wideB (l.take (k + 1)) = max (wideB (l.take k)) s.size from by rw [take_by hs, wideB_snoc])
        have HSs := Lib.hid (HXs.out s (List.mem_of_getElem? hs))
        clear hs
        generalize wideB (l.take k) = W at HTk
        go_wp2_with fail
        go_roundw
        case rel => exact ⟨k + 1, by omega, by simp, by rw [HTk.out]; simp; omega, rfl⟩
        case measure => simp [intOf]; omega
      · obtain rfl : k = l.length := by omega
        have d1 : decide (((l.length : Nat) : Int) < (l.length : Int)) = false := decide_eq_false (by omega)
        have eT : wideB (l.take l.length) = wideB l := by rw [List.take_length]
        rw [eT]
        clear eT
        obtain ⟨W, hW⟩ : ∃ W, wideB l = W := ⟨_, rfl⟩
        have HWe := Lib.hid hW
        rw [hW] at HW ⊢
        have HCs := Lib.hid (show Cols Bs T G C (up X c (padsL c W (X c) 0)) wr from HC0.out.congr fun d hd => by
          unfold up
          by_cases h : d = c
          · rw [if_pos h, h, pads_zero]
          · rw [if_neg h])
        clear HC0 hW
        go_upto_region 8 with fail
        obtain ⟨w3, rfl⟩ : ∃ w3, w3 = wr := ⟨_, rfl⟩
        go_loopw [32] (AlRel Bs T G C X c W w0) (fun v _ => l.length - (intOf v).toNat)
        case atStart => exact ⟨0, Nat.zero_le _, rfl, HCs, HB0⟩
        case round =>
          clear HCs HB0 hT harr
          obtain ⟨k, hk, rfl, HC, HB⟩ := hrel
          rw [HlX.out] at hk
          by_cases hlt : k < l.length
          · have d1 : decide ((k : Int) < (l.length : Int)) = true := decide_eq_true (by omega)
            obtain ⟨s, hs⟩ : ∃ s, l[k]? = some s := ⟨_, List.getElem?_eq_getElem hlt⟩
            have hsX : (X c)[k]? = some s := by rw [HlX.out]; exact hs
            have HKp := Lib.hid (show ∀ Y, Below wr.heap.size wr Y → Y.cell? ⟨T, c, none⟩ = some (.slice (some ⟨G c, 0, none⟩) l.length (C c)) ∧ Y.cell? ⟨G c, k, none⟩ = some (.string s) ∧ Y.frozen? ⟨G c, k, none⟩ = false ∧ Cols Bs T G C (up X c (padsL c W (X c) (k + 1))) (Y.setCell ⟨G c, k, none⟩ (.string (padL c W s))) ∧ Below Bs w0 (Y.setCell ⟨G c, k, none⟩ (.string (padL c W s))) from fun Y hY => by
              have q := HC.out.keep hY
              have q1 := (q.cell hc).1
              have q2 := q.text hc (i := k) (s := s) (by rw [up_here]; exact pads_at hsX)
              have q3 := q.put hc (i := k) (by rw [up_here, pads_len, HlX.out]; exact hlt) (padL c W s)
              unfold slJ at q1
              rw [up_here, pads_len, HlX.out] at q1
              refine ⟨q1, q2.1, q2.2, q3.congr fun d hd => ?_, (HB.out.trans (hY.mono (Nat.le_of_lt (Nat.lt_of_le_of_lt (HC.out.lt hc).1 (HC.out.lt hc).2)))).setCell (p := ⟨G c, k, none⟩) (q.lt hc).1 _⟩
              unfold up
              by_cases h : d = c
              · rw [if_pos h, if_pos h, if_pos rfl, pads_step hsX]
              · rw [if_neg h, if_neg h, if_neg h])
            have HSs := Lib.hid (HXs.out s (List.mem_of_getElem? hs))
            have hss := HSs.out
            have hcs := (HKp.out _ (Below.refl _ _)).2.1
            have hW1 := HW.out
            have HLk := Lib.hid (lack_small (a := s.size) (b := W) (by omega) (by omega))
            obtain ⟨ps, hps⟩ : ∃ ps, padL c W s = ps := ⟨_, rfl⟩
            have HPs := Lib.hid hps
            rw [hps] at HKp
            clear hs hsX hps
            go_upto_region 10 with fail
            by_cases h0 : c = 0
            · have d2 : ((c : Int) == 0) = true := beq_iff_eq.2 (by omega)
              have HCl := Lib.hid (fun (Y : World) => N.left_any s (s.size : Int) (W : Int) Y hss)
              rw [HLk.out] at HCl
              have e : s ++ N.blankS (W - s.size) = ps := by rw [← HPs.out]; unfold padL; rw [if_pos h0]
              rw [e] at HCl
              clear e h0
              go_upto_region 11 with fail
-- TILL 11
              refine B.Till.region (z := 12) (S := fun w' => Below wr.heap.size wr w') (by kernel_rfl) ((Below.refl _ _).drew) (fun hHeld => ?_)
              refine B.Till.take (i := 0) (oi := ⟨some 39, .move (.tmp 0), 188, "facts.go:245", #[], none⟩) (v := .pointer (some ⟨T, 0, none⟩)) rfl (by kernel_rfl) (by kernel_rfl) (by kernel_rfl) (by kernel_rfl) (fun _ _ _ h => h) (Or.inl ⟨by rfl, fun w0 hS0 => ?_⟩) (by assumption) ?_
              · go_simp
              try simp only [Act.put, lt, l0, ls]
              refine B.Till.take (i := 1) (oi := ⟨some 40, .move (.tmp 1), 3, "facts.go:245", #[], none⟩) (v := .int .i64 (c : Int)) rfl (by kernel_rfl) (by kernel_rfl) (by kernel_rfl) (by kernel_rfl) (fun _ _ _ h => h) (Or.inl ⟨by rfl, fun w0 hS0 => ?_⟩) (by assumption) ?_
              · go_simp
              try simp only [Act.put, lt, l0, ls]
              refine B.Till.take (i := 2) (oi := ⟨some 41, .nilCheck (.tmp 39), 0, "facts.go:245", #[⟨0, .data⟩], none⟩) (v := .pointer (some ⟨T, 0, none⟩)) rfl (by kernel_rfl) (by kernel_rfl) (by kernel_rfl) (by kernel_rfl) (fun _ _ _ h => h) (Or.inl ⟨by rfl, fun w0 hS0 => ?_⟩) (by assumption) ?_
              · go_simp
              try simp only [Act.put, lt, l0, ls]
              refine B.Till.take (i := 3) (oi := ⟨some 42, .indexAddr 106 (.tmp 41) (.tmp 40), 0, "facts.go:245", #[⟨2, .data⟩, ⟨1, .data⟩], none⟩) (v := .pointer (some ⟨T, c, none⟩)) rfl (by kernel_rfl) (by kernel_rfl) (by kernel_rfl) (by kernel_rfl) (fun _ _ _ h => h) (Or.inl ⟨by rfl, fun w0 hS0 => exec_arrT (.tmp 41) (.tmp 40) rfl T c hc rfl rfl⟩) (by assumption) ?_
              try simp only [Act.put, lt, l0, ls]
              refine B.Till.take (i := 4) (oi := ⟨some 43, .load 40 (.tmp 42), 40, "facts.go:245", #[⟨3, .data⟩], none⟩) (v := .slice (some ⟨G c, 0, none⟩) l.length (C c)) rfl (by kernel_rfl) (by kernel_rfl) (by kernel_rfl) (by kernel_rfl) (fun _ _ _ h => h) (Or.inl ⟨by rfl, fun w0 hS0 => ?_⟩) (by assumption) ?_
              · have b4 := (HKp.out _ hS0).1; go_simp
              try simp only [Act.put, lt, l0, ls]
              refine B.Till.take (i := 5) (oi := ⟨some 44, .move (.tmp 7), 3, "facts.go:245", #[], none⟩) (v := .int .i64 (k : Int)) rfl (by kernel_rfl) (by kernel_rfl) (by kernel_rfl) (by kernel_rfl) (fun _ _ _ h => h) (Or.inl ⟨by rfl, fun w0 hS0 => ?_⟩) (by assumption) ?_
              · go_simp
              try simp only [Act.put, lt, l0, ls]
              refine B.Till.take (i := 6) (oi := ⟨some 45, .move (.tmp 8), 9, "facts.go:245", #[], none⟩) (v := .string s) rfl (by kernel_rfl) (by kernel_rfl) (by kernel_rfl) (by kernel_rfl) (fun _ _ _ h => h) (Or.inl ⟨by rfl, fun w0 hS0 => ?_⟩) (by assumption) ?_
              · go_simp
              try simp only [Act.put, lt, l0, ls]
              refine B.Till.take (i := 7) (oi := ⟨some 46, .move (.tmp 8), 9, "facts.go:245", #[], none⟩) (v := .string s) rfl (by kernel_rfl) (by kernel_rfl) (by kernel_rfl) (by kernel_rfl) (fun _ _ _ h => h) (Or.inl ⟨by rfl, fun w0 hS0 => ?_⟩) (by assumption) ?_
              · go_simp
              try simp only [Act.put, lt, l0, ls]
              refine B.Till.take (i := 8) (oi := ⟨some 47, .call ⟨.builtin .len, #[.tmp 46], #[9]⟩, 3, "facts.go:245", #[⟨7, .data⟩], none⟩) (v := .int .i64 (s.size : Int)) rfl (by kernel_rfl) (by kernel_rfl) (by kernel_rfl) (by kernel_rfl) (fun _ _ _ h => h) (Or.inl ⟨by rfl, fun w0 hS0 => ?_⟩) (by assumption) ?_
              · go_simp
              try simp only [Act.put, lt, l0, ls]
              refine B.Till.take (i := 9) (oi := ⟨some 48, .move (.tmp 4), 3, "facts.go:245", #[], none⟩) (v := .int .i64 (W : Int)) rfl (by kernel_rfl) (by kernel_rfl) (by kernel_rfl) (by kernel_rfl) (fun _ _ _ h => h) (Or.inl ⟨by rfl, fun w0 hS0 => ?_⟩) (by assumption) ?_
              · go_simp
              try simp only [Act.put, lt, l0, ls]
              refine B.Till.next (i := 10) (o := ⟨some 49, .call ⟨.value (.func 100), #[.tmp 45, .tmp 47, .tmp 48], #[9, 3, 3]⟩, 9, "facts.go:245", #[⟨6, .data⟩, ⟨8, .data⟩, ⟨9, .data⟩], none⟩) (by kernel_rfl) rfl (fun K hK => ?_)
              go_simp
              refine (HCl.out _).mono ?_
              rintro e w9 ⟨rfl, hb9⟩
              have hH9 : Below wr.heap.size wr w9 := hHeld.trans hb9
              clear hb9
              go_wp2_with fail
              refine hK.out _ _ (fun _ => hH9) ?_
              clear hK K
              try simp only [Act.put, lt, l0, ls]
              refine B.Till.take (i := 11) (oi := ⟨some 50, .indexAddr 40 (.tmp 43) (.tmp 44), 0, "facts.go:245", #[⟨4, .data⟩, ⟨5, .data⟩, ⟨0, .phase⟩, ⟨1, .phase⟩, ⟨2, .phase⟩, ⟨3, .phase⟩, ⟨4, .phase⟩, ⟨5, .phase⟩, ⟨6, .phase⟩, ⟨7, .phase⟩, ⟨8, .phase⟩, ⟨9, .phase⟩, ⟨10, .phase⟩], none⟩) (v := .pointer (some ⟨G c, k, none⟩)) rfl (by kernel_rfl) (by kernel_rfl) (by kernel_rfl) (by kernel_rfl) (fun _ _ _ h => h) (Or.inl ⟨by rfl, fun w0 hS0 => ?_⟩) (by assumption) ?_
              · go_simp
              try simp only [Act.put, lt, l0, ls]
              refine B.Till.next (i := 12) (o := ⟨none, .store 9 (.tmp 50) (.tmp 49), 0, "facts.go:245", #[⟨11, .data⟩, ⟨10, .data⟩, ⟨10, .chain⟩, ⟨0, .phase⟩, ⟨1, .phase⟩, ⟨2, .phase⟩, ⟨3, .phase⟩, ⟨4, .phase⟩, ⟨5, .phase⟩, ⟨6, .phase⟩, ⟨7, .phase⟩, ⟨8, .phase⟩, ⟨9, .phase⟩, ⟨10, .phase⟩], none⟩) (by kernel_rfl) rfl (fun K hK => ?_)
              have HKe := Lib.hid (HKp.out _ hH9)
              have q3 := HKe.out.2.1
              have q4 := HKe.out.2.2.1
              go_simp
              refine hK.out _ _ (fun q => absurd rfl q) ?_
              clear hK K
              try simp only [Act.put, lt, l0, ls]
              refine B.Till.done (by kernel_rfl) ?_
-- TILL 11 END
              go_wp2_with fail
              go_roundw
              case rel => exact ⟨k + 1, by rw [HlX.out]; omega, by simp, Lib.hid HKe.out.2.2.2.1, Lib.hid HKe.out.2.2.2.2⟩
              case measure => simp [intOf]; omega
            · have d2 : ((c : Int) == 0) = false := beq_eq_false_iff_ne.2 (by omega)
              have HCl := Lib.hid (fun (Y : World) => N.right_any s (s.size : Int) (W : Int) Y hss)
              rw [HLk.out] at HCl
              have e : N.blankS (W - s.size) ++ s = ps := by rw [← HPs.out]; unfold padL; rw [if_neg h0, if_pos (by omega)]
              rw [e] at HCl
              clear e h0
              go_upto_region 12 with fail
-- TILL 12
              refine B.Till.region (z := 12) (S := fun w' => Below wr.heap.size wr w') (by kernel_rfl) ((Below.refl _ _).drew) (fun hHeld => ?_)
              refine B.Till.take (i := 0) (oi := ⟨some 51, .move (.tmp 0), 188, "facts.go:247", #[], none⟩) (v := .pointer (some ⟨T, 0, none⟩)) rfl (by kernel_rfl) (by kernel_rfl) (by kernel_rfl) (by kernel_rfl) (fun _ _ _ h => h) (Or.inl ⟨by rfl, fun w0 hS0 => ?_⟩) (by assumption) ?_
              · go_simp
              try simp only [Act.put, lt, l0, ls]
              refine B.Till.take (i := 1) (oi := ⟨some 52, .move (.tmp 1), 3, "facts.go:247", #[], none⟩) (v := .int .i64 (c : Int)) rfl (by kernel_rfl) (by kernel_rfl) (by kernel_rfl) (by kernel_rfl) (fun _ _ _ h => h) (Or.inl ⟨by rfl, fun w0 hS0 => ?_⟩) (by assumption) ?_
              · go_simp
              try simp only [Act.put, lt, l0, ls]
              refine B.Till.take (i := 2) (oi := ⟨some 53, .nilCheck (.tmp 51), 0, "facts.go:247", #[⟨0, .data⟩], none⟩) (v := .pointer (some ⟨T, 0, none⟩)) rfl (by kernel_rfl) (by kernel_rfl) (by kernel_rfl) (by kernel_rfl) (fun _ _ _ h => h) (Or.inl ⟨by rfl, fun w0 hS0 => ?_⟩) (by assumption) ?_
              · go_simp
              try simp only [Act.put, lt, l0, ls]
              refine B.Till.take (i := 3) (oi := ⟨some 54, .indexAddr 106 (.tmp 53) (.tmp 52), 0, "facts.go:247", #[⟨2, .data⟩, ⟨1, .data⟩], none⟩) (v := .pointer (some ⟨T, c, none⟩)) rfl (by kernel_rfl) (by kernel_rfl) (by kernel_rfl) (by kernel_rfl) (fun _ _ _ h => h) (Or.inl ⟨by rfl, fun w0 hS0 => exec_arrT (.tmp 53) (.tmp 52) rfl T c hc rfl rfl⟩) (by assumption) ?_
              try simp only [Act.put, lt, l0, ls]
              refine B.Till.take (i := 4) (oi := ⟨some 55, .load 40 (.tmp 54), 40, "facts.go:247", #[⟨3, .data⟩], none⟩) (v := .slice (some ⟨G c, 0, none⟩) l.length (C c)) rfl (by kernel_rfl) (by kernel_rfl) (by kernel_rfl) (by kernel_rfl) (fun _ _ _ h => h) (Or.inl ⟨by rfl, fun w0 hS0 => ?_⟩) (by assumption) ?_
              · have b4 := (HKp.out _ hS0).1; go_simp
              try simp only [Act.put, lt, l0, ls]
              refine B.Till.take (i := 5) (oi := ⟨some 56, .move (.tmp 7), 3, "facts.go:247", #[], none⟩) (v := .int .i64 (k : Int)) rfl (by kernel_rfl) (by kernel_rfl) (by kernel_rfl) (by kernel_rfl) (fun _ _ _ h => h) (Or.inl ⟨by rfl, fun w0 hS0 => ?_⟩) (by assumption) ?_
              · go_simp
              try simp only [Act.put, lt, l0, ls]
              refine B.Till.take (i := 6) (oi := ⟨some 57, .move (.tmp 8), 9, "facts.go:247", #[], none⟩) (v := .string s) rfl (by kernel_rfl) (by kernel_rfl) (by kernel_rfl) (by kernel_rfl) (fun _ _ _ h => h) (Or.inl ⟨by rfl, fun w0 hS0 => ?_⟩) (by assumption) ?_
              · go_simp
              try simp only [Act.put, lt, l0, ls]
              refine B.Till.take (i := 7) (oi := ⟨some 58, .move (.tmp 8), 9, "facts.go:247", #[], none⟩) (v := .string s) rfl (by kernel_rfl) (by kernel_rfl) (by kernel_rfl) (by kernel_rfl) (fun _ _ _ h => h) (Or.inl ⟨by rfl, fun w0 hS0 => ?_⟩) (by assumption) ?_
              · go_simp
              try simp only [Act.put, lt, l0, ls]
              refine B.Till.take (i := 8) (oi := ⟨some 59, .call ⟨.builtin .len, #[.tmp 58], #[9]⟩, 3, "facts.go:247", #[⟨7, .data⟩], none⟩) (v := .int .i64 (s.size : Int)) rfl (by kernel_rfl) (by kernel_rfl) (by kernel_rfl) (by kernel_rfl) (fun _ _ _ h => h) (Or.inl ⟨by rfl, fun w0 hS0 => ?_⟩) (by assumption) ?_
              · go_simp
              try simp only [Act.put, lt, l0, ls]
              refine B.Till.take (i := 9) (oi := ⟨some 60, .move (.tmp 4), 3, "facts.go:247", #[], none⟩) (v := .int .i64 (W : Int)) rfl (by kernel_rfl) (by kernel_rfl) (by kernel_rfl) (by kernel_rfl) (fun _ _ _ h => h) (Or.inl ⟨by rfl, fun w0 hS0 => ?_⟩) (by assumption) ?_
              · go_simp
              try simp only [Act.put, lt, l0, ls]
              refine B.Till.next (i := 10) (o := ⟨some 61, .call ⟨.value (.func 101), #[.tmp 57, .tmp 59, .tmp 60], #[9, 3, 3]⟩, 9, "facts.go:247", #[⟨6, .data⟩, ⟨8, .data⟩, ⟨9, .data⟩], none⟩) (by kernel_rfl) rfl (fun K hK => ?_)
              go_simp
              refine (HCl.out _).mono ?_
              rintro e w9 ⟨rfl, hb9⟩
              have hH9 : Below wr.heap.size wr w9 := hHeld.trans hb9
              clear hb9
              go_wp2_with fail
              refine hK.out _ _ (fun _ => hH9) ?_
              clear hK K
              try simp only [Act.put, lt, l0, ls]
              refine B.Till.take (i := 11) (oi := ⟨some 62, .indexAddr 40 (.tmp 55) (.tmp 56), 0, "facts.go:247", #[⟨4, .data⟩, ⟨5, .data⟩, ⟨0, .phase⟩, ⟨1, .phase⟩, ⟨2, .phase⟩, ⟨3, .phase⟩, ⟨4, .phase⟩, ⟨5, .phase⟩, ⟨6, .phase⟩, ⟨7, .phase⟩, ⟨8, .phase⟩, ⟨9, .phase⟩, ⟨10, .phase⟩], none⟩) (v := .pointer (some ⟨G c, k, none⟩)) rfl (by kernel_rfl) (by kernel_rfl) (by kernel_rfl) (by kernel_rfl) (fun _ _ _ h => h) (Or.inl ⟨by rfl, fun w0 hS0 => ?_⟩) (by assumption) ?_
              · go_simp
              try simp only [Act.put, lt, l0, ls]
              refine B.Till.next (i := 12) (o := ⟨none, .store 9 (.tmp 62) (.tmp 61), 0, "facts.go:247", #[⟨11, .data⟩, ⟨10, .data⟩, ⟨10, .chain⟩, ⟨0, .phase⟩, ⟨1, .phase⟩, ⟨2, .phase⟩, ⟨3, .phase⟩, ⟨4, .phase⟩, ⟨5, .phase⟩, ⟨6, .phase⟩, ⟨7, .phase⟩, ⟨8, .phase⟩, ⟨9, .phase⟩, ⟨10, .phase⟩], none⟩) (by kernel_rfl) rfl (fun K hK => ?_)
              have HKe := Lib.hid (HKp.out _ hH9)
              have q3 := HKe.out.2.1
              have q4 := HKe.out.2.2.1
              go_simp
              refine hK.out _ _ (fun q => absurd rfl q) ?_
              clear hK K
              try simp only [Act.put, lt, l0, ls]
              refine B.Till.done (by kernel_rfl) ?_
-- TILL 12 END
              go_wp2_with fail
              go_roundw
              case rel => exact ⟨k + 1, by rw [HlX.out]; omega, by simp, Lib.hid HKe.out.2.2.2.1, Lib.hid HKe.out.2.2.2.2⟩
              case measure => simp [intOf]; omega
          · obtain rfl : k = l.length := by omega
            have d1 : decide (((l.length : Nat) : Int) < (l.length : Int)) = false := decide_eq_false (by omega)
            have HE := Lib.hid (show Cols Bs T G C (up X c (l.map (padL c W))) wr from HC.out.congr fun d hd => by
              unfold up
              by_cases h : d = c
              · rw [if_pos h, if_pos h, HlX.out, pads_all]
              · rw [if_neg h, if_neg h])
            go_wp2_with fail
            go_end0
            exact ⟨rfl, by rw [HWe.out]; exact HE.out, HB.out⟩

/-! ### line -/
def partA (r : Row6) (c : Nat) : Array Value := #[if 0 < c then .string (r 0) else .string ⟨#[]⟩, if 1 < c then .string (r 1) else .string ⟨#[]⟩, if 2 < c then .string (r 2) else .string ⟨#[]⟩, if 3 < c then .string (r 3) else .string ⟨#[]⟩, if 4 < c then .string (r 4) else .string ⟨#[]⟩, if 5 < c then .string (r 5) else .string ⟨#[]⟩]
theorem part_set (r : Row6) {c : Nat} (hc : c < 6) : (partA r c).setIfInBounds c (.string (r c)) = partA r (c + 1) := by
  rcases six_cases hc with rfl | rfl | rfl | rfl | rfl | rfl <;> rfl
theorem part_get (r : Row6) {c : Nat} (hc : c < 6) : ∃ v, (partA r c)[c]? = some v := by
  rcases six_cases hc with rfl | rfl | rfl | rfl | rfl | rfl <;> exact ⟨_, rfl⟩
def LiRel (r : Row6) (B0 : Nat) (w : World) (v : Value) (wr : World) : Prop := ∃ c : Nat, c ≤ 6 ∧ v = .int .i64 (c : Int) ∧ Hid (wr.heap[B0]? = some (.cells (partA r c) 110 (0, 0))) ∧ Hid (Below w.heap.size w wr)
def rowL6 (r : Row6) : List ByteArray := [r 0, r 1, r 2, r 3, r 4, r 5]
theorem join6_any (r : Row6) (B0 : Nat) (w : World) (hb : w.heap[B0]? = some (.cells (partA r 6) 110 (0, 0))) (hz : ∀ c, c < 6 → (r c).size ≤ 2000000) :
    Calls Tryz.prog 102 #[.slice (some ⟨B0, 0, none⟩) 6 6, .string ⟨#[32]⟩] w fun e w' => e = .returned (.string (joinJ (rowL6 r))) ∧ Below w.heap.size w w' := by
  have e32 : (⟨#[32]⟩ : ByteArray).data.toList = [32] := rfl
  have hlen : (Lib.join ((rowL6 r).map (·.data.toList)) (⟨#[32]⟩ : ByteArray).data.toList).length ≤ 140737488355328 := by
    have h0 := hz 0 (by decide)
    have h1 := hz 1 (by decide)
    have h2 := hz 2 (by decide)
    have h3 := hz 3 (by decide)
    have h4 := hz 4 (by decide)
    have h5 := hz 5 (by decide)
    have e : ∀ s : ByteArray, s.data.toList.length = s.size := fun s => size_list s
    rw [e32]
    unfold rowL6
    simp only [List.map_cons, List.map_nil, Lib.join_cons, Lib.joinTail, List.flatten_cons, List.flatten_nil, List.length_append, List.length_cons, List.length_nil, e]
    omega
  refine (Tryz.strings_Join B0 0 6 (rowL6 r) ⟨#[32]⟩ w (fun j x hx => ?_) (heap_lt hb) (by show 6 ≤ _; omega) (Nat.le_refl _) hlen).mono ?_
  · rw [Nat.zero_add, cell_of_row _ _ _ _ _ _ hb]
    have hj := (List.getElem?_eq_some_iff.1 hx).1
    rcases six_cases (show j < 6 from hj) with rfl | rfl | rfl | rfl | rfl | rfl <;> (obtain rfl := Option.some.inj hx; rfl)
  · rintro e w' ⟨rfl, hb⟩
    exact ⟨rfl, hb⟩

set_option maxRecDepth 100000 in
set_option maxHeartbeats 8000000 in
theorem line_any {Bs T : Nat} {G C : Nat → Nat} {X : Nat → List ByteArray} (i : Nat) (r : Row6) (w : World) (hC : Cols Bs T G C X w) (hr : ∀ c, c < 6 → (X c)[i]? = some (r c)) (hz : ∀ c, c < 6 → (r c).size ≤ 2000000) (hl : ∀ c, c < 6 → (X c).length ≤ 1000000) :
    Calls Tryz.prog 50 #[.pointer (some ⟨T, 0, none⟩), .int .i64 (i : Int)] w fun e w' => e = .returned (.string (joinJ (rowL6 r))) ∧ Below w.heap.size w w' := by
  have HC := Lib.hid hC
  have HRr := Lib.hid hr
  have HJ := Lib.hid (fun (Y : World) (B0 : Nat) (hb : Y.heap[B0]? = some (.cells (partA r 6) 110 (0, 0))) => join6_any r B0 Y hb hz)
  have HLl := Lib.hid (fun c (hc : c < 6) => (show i < (X c).length ∧ (X c).length ≤ 1000000 from ⟨(List.getElem?_eq_some_iff.1 (hr c hc)).1, hl c hc⟩))
  clear hC hr hz hl
  go_enter Tryz.func50, Tryz.ntmps50
  go_upto_region 2 with fail
  have HX1 := Lib.hid (heap_alloc_new w (.cells #[.string ⟨#[]⟩, .string ⟨#[]⟩, .string ⟨#[]⟩, .string ⟨#[]⟩, .string ⟨#[]⟩, .string ⟨#[]⟩] 110))
  have HB1 := Lib.hid (show Below w.heap.size w (w.alloc (.cells #[.string ⟨#[]⟩, .string ⟨#[]⟩, .string ⟨#[]⟩, .string ⟨#[]⟩, .string ⟨#[]⟩, .string ⟨#[]⟩] 110)) from (Below.refl _ _).alloc (Nat.le_refl _) _)
  generalize w.alloc (.cells #[.string ⟨#[]⟩, .string ⟨#[]⟩, .string ⟨#[]⟩, .string ⟨#[]⟩, .string ⟨#[]⟩, .string ⟨#[]⟩] 110) = w1 at HX1 HB1 ⊢
  obtain ⟨B0, hB0⟩ : ∃ B0, w.heap.size = B0 := ⟨_, rfl⟩
  have HB0 := Lib.hid hB0
  rw [hB0] at HX1 ⊢
  clear hB0
  go_wp2_with fail
  go_loopw [7] (LiRel r B0 w) (fun v _ => 6 - (intOf v).toNat)
  case atStart => exact ⟨0, by omega, rfl, HX1, HB1⟩
  case round =>
    clear HX1 HB1
    obtain ⟨c, hc, rfl, HX, HB⟩ := hrel
    by_cases hc6 : c < 6
    · have d0 : decide ((c : Int) < 6) = true := decide_eq_true (by omega)
      have q := HC.out.keep HB.out
      have hT := (q.cell hc6).1
      have hcs := (q.text hc6 (i := i) (s := r c) (HRr.out c hc6)).1
      have hLl := HLl.out c hc6
      have harr := fun w => arrT T c w hc6
      have har6 := fun w => arr6 B0 c w hc6
      obtain ⟨ov, hov⟩ := part_get r hc6
      have hov2 : wr.cell? ⟨B0, c, none⟩ = some ov := by rw [cell_of_row _ _ _ _ _ _ HX.out]; exact hov
      have hfr : wr.frozen? ⟨B0, c, none⟩ = false := frozen_of_row _ _ _ _ _ HX.out
      have HX2 := Lib.hid (show (wr.setCell ⟨B0, c, none⟩ (.string (r c))).heap[B0]? = some (.cells (partA r (c + 1)) 110 (0, 0)) from by rw [heap_setCell_same _ _ _ _ _ _ HX.out, part_set r hc6])
      have hb0 := HB0.out
      have HB2 := Lib.hid (HB.out.setCell (p := ⟨B0, c, none⟩) (by show w.heap.size ≤ B0; omega) (.string (r c)))
      unfold slJ at hT
      clear q hov
      go_wp2_with fail
      go_roundw
      case rel => exact ⟨c + 1, by omega, by simp, HX2, HB2⟩
      case measure => simp [intOf]; omega
    · obtain rfl : c = 6 := by omega
      have d0 : decide (((6 : Nat) : Int) < 6) = false := by decide
      have HJ1 := Lib.hid (HJ.out wr B0 HX.out)
      go_wp2_with (go_at_call 102; refine HJ1.out.mono ?_; rintro e w2 ⟨rfl, hb2⟩; have HB2 := Lib.hid (below_two HB.out hb2); clear hb2)
      go_ret
      exact ⟨rfl, HB2.out⟩
end Go.Proofs.YtknfhphhcnbndaaGreatDoor.J

namespace Go.Proofs.YtknfhphhcnbndaaGreatDoor.J
open List renaming setIfInBounds_toArray → lt, set_cons_zero → l0, set_cons_succ → ls
open Go.Proofs.YtknfhphhcnbndaaGreatDoor.B
open Go.RowKit

/-- The first c columns aligned. -/
def alX (R : List Rw) (c : Nat) : Nat → List ByteArray := fun d => if d < c then (colsX R d).map (padL d (wideJ (rowsJ R) d)) else colsX R d
theorem al_zero (R : List Rw) : alX R 0 = colsX R := by
  funext d
  unfold alX
  rw [if_neg (by omega)]
theorem al_at (R : List Rw) (c : Nat) : alX R c c = colsX R c := by
  unfold alX
  rw [if_neg (by omega)]
theorem al_step (R : List Rw) (c : Nat) : up (alX R c) c ((alX R c c).map (padL c (wideB (alX R c c)))) = alX R (c + 1) := by
  have e : wideB (colsX R c) = wideJ (rowsJ R) c := wideB_is _ _
  rw [al_at, e]
  funext d
  unfold up
  by_cases h : d = c
  · subst h
    rw [if_pos rfl]
    unfold alX
    rw [if_pos (by omega)]
  · rw [if_neg h]
    unfold alX
    by_cases h2 : d < c
    · rw [if_pos h2, if_pos (by omega)]
    · rw [if_neg h2, if_neg (by omega)]
theorem al_len (R : List Rw) (c d : Nat) : (alX R c d).length = R.length + 1 := by
  unfold alX
  split
  · rw [List.length_map, colsX_len]
  · rw [colsX_len]
theorem al_get {R : List Rw} {i : Nat} {r : Row6} (h : (rowsJ R)[i]? = some r) {c : Nat} (hc : c < 6) : (alX R 6 c)[i]? = some (padL c (wideJ (rowsJ R) c) (r c)) := by
  unfold alX
  rw [if_pos hc, List.getElem?_map]
  unfold colsX
  rw [List.getElem?_map, h]
  rfl
theorem padL_size {c W : Nat} {t : ByteArray} {K : Nat} (h : t.size ≤ K) (hW : W ≤ K) : (padL c W t).size ≤ 2 * K := by
  unfold padL
  split
  · rw [ByteArray.size_append, N.blankS_size]; omega
  · split
    · rw [ByteArray.size_append, N.blankS_size]; omega
    · omega
theorem cols_small {R : List Rw} (h : ∀ r ∈ R, OkR r) {c : Nat} (hc : c < 5) : ∀ s ∈ colsX R c, s.size ≤ 100 := fun s hs => by
  obtain ⟨r, hr, rfl⟩ := List.mem_map.1 hs
  have := rows_size h hc r hr
  omega
theorem line_small {R : List Rw} (h : ∀ r ∈ R, OkR r) {r : Row6} (hr : r ∈ rowsJ R) : ∀ c, c < 6 → (padL c (wideJ (rowsJ R) c) (r c)).size ≤ 2000000 := fun c hc => by
  by_cases h5 : c < 5
  · have h1 := rows_size h h5 r hr
    have h2 := wide_le (K := 22) (rows_size h h5)
    have := padL_size (c := c) h1 h2
    omega
  · obtain rfl : c = 5 := by omega
    have h1 := rows_size5 h r hr
    unfold padL
    rw [if_neg (by decide), if_neg (by decide)]
    omega
theorem line_six (R : List Rw) (r : Row6) : joinJ (rowL6 fun c => padL c (wideJ (rowsJ R) c) (r c)) = lineJ (wideJ (rowsJ R)) r := rfl
def ClRel (R : List Rw) (Bs T : Nat) (G C : Nat → Nat) (w : World) (v : Value) (wr : World) : Prop := ∃ c : Nat, c ≤ 6 ∧ v = .int .i64 (c : Int) ∧ Hid (Cols Bs T G C (alX R c) wr) ∧ Hid (Below Bs w wr)
def LnRel (A : List ByteArray) (n : Nat) (w4 : World) (v : Value) (wr : World) : Prop :=
  ∃ i : Nat, i ≤ n ∧ v = .int .i64 (i : Int) ∧ Hid (wr.ownsRow w4.heap.size 9 1 (.slice (some ⟨w4.heap.size, 0, none⟩) n n) n (strs (setsL A ⟨#[]⟩ i))) ∧ Hid (Below w4.heap.size w4 wr)
theorem str_made (n : Nat) : (madeCells (Value.string ⟨#[]⟩).cells (n * 1)).toList = strs (List.replicate n ⟨#[]⟩) := by
  have : (Value.string ⟨#[]⟩).cells = #[.string ⟨#[]⟩] := rfl
  rw [this, toList_madeCells_one, Nat.mul_one]
  unfold strs
  rw [List.map_replicate]
theorem strs_set (l : List ByteArray) (i : Nat) (s : ByteArray) : (strs l).set i (.string s) = strs (l.set i s) := by
  unfold strs
  rw [List.map_set]

set_option maxRecDepth 100000 in
set_option maxHeartbeats 16000000 in
theorem table_any (R : List Rw) (ra : Option Addr) (rc : Nat) (w : World) (ht : N.Tab w) (HR : RowL 6 rwC w ra R) (hl : R.length ≤ 1000) (hR : ∀ r ∈ R, OkR r) :
    Calls Tryz.prog 19 #[.slice ra R.length rc] w fun e w' => ∃ v, e = .returned v ∧ w'.ownsRow w.heap.size 9 1 v (tableJ R).length (strs (tableJ R)) ∧ Below w.heap.size w w' := by
  obtain ⟨i0, hi0, hz0, hz1, hz2⟩ := info_parts infoStr
  have HTo := Lib.hid (tableOf_any R ra rc w ht HR (by omega) hR)
  have HOk := Lib.hid hR
  have HAl := Lib.hid (table_len R)
  have HAt := Lib.hid (show ∀ (i : Nat) (r : Row6), (rowsJ R)[i]? = some r → (tableJ R)[i]? = some (joinJ (rowL6 fun c => padL c (wideJ (rowsJ R) c) (r c))) from fun i r hr => by unfold tableJ; rw [List.getElem?_map, hr, line_six]; rfl)
  have HRn := Lib.hid (show (rowsJ R).length = R.length + 1 from by unfold rowsJ; simp)
  clear ht HR hR
  generalize tableJ R = A at HAl HAt ⊢
  go_enter Tryz.func19, Tryz.ntmps19
  go_upto_region 1 with fail
  go_wp2_with fail
  refine HTo.out.mono ?_
  rintro e w2 ⟨G, C, rfl, ho, hs, hb⟩
  have HO2 := Lib.hid ho
  have HS2 := Lib.hid hs
  have HB2 := Lib.hid hb
  clear ho hs hb HTo
  go_upto_region 2 with (refine wpList_store_row rfl 106 (.tmp 3) (.tmp 8) rfl w2.heap.size (tabA G C (colsX R)) rfl rfl 106 _ (heap_alloc_new _ _) sizeTab rfl (tab_one _ _ _) ?_; rw [World.setRow_alloc_new])
  have HC3 := Lib.hid (show Cols w.heap.size w2.heap.size G C (alX R 0) (w2.alloc (.cells (tabA G C (colsX R)) 106)) from by
    rw [al_zero]
    exact ⟨heap_alloc_new _ _, fun c hc => owns_to (HO2.out c hc) ((Below.refl _ _).alloc (Nat.le_refl _) _), HS2.out⟩)
  have HB3 := Lib.hid (show Below w.heap.size w (w2.alloc (.cells (tabA G C (colsX R)) 106)) from HB2.out.alloc HB2.out.size _)
  generalize w2.alloc (.cells (tabA G C (colsX R)) 106) = w3 at HC3 HB3 ⊢
  generalize w2.heap.size = T at HC3 ⊢
  clear HO2 HS2 HB2
  go_wp2_with fail
  go_loopw [9] (ClRel R w.heap.size T G C w) (fun v _ => 6 - (intOf v).toNat)
  case atStart => exact ⟨0, by omega, rfl, HC3, HB3⟩
  case round =>
    clear HC3 HB3
    obtain ⟨c, hc, rfl, HC, HB⟩ := hrel
    by_cases hc6 : c < 6
    · have d0 : decide ((c : Int) < 6) = true := decide_eq_true (by omega)
      have HSt := Lib.hid (al_step R c)
      have HAc := Lib.hid (align_any c hc6 w wr HC.out HB.out (fun h5 => by rw [al_at]; exact cols_small HOk.out h5) (by rw [al_len]; omega) (by rw [al_len]; omega))
      go_wp2_with (go_at_call 49; refine HAc.out.mono ?_; rintro e w4 ⟨rfl, hc4, hb4⟩; rw [HSt.out] at hc4; have HC4 := Lib.hid hc4; have HB4 := Lib.hid hb4; clear hc4 hb4)
      go_roundw
      case rel => exact ⟨c + 1, by omega, by simp, HC4, HB4⟩
      case measure => simp [intOf]; omega
    · obtain rfl : c = 6 := by omega
      have d0 : decide (((6 : Nat) : Int) < 6) = false := by decide
      go_upto_region 8 with (at_make; go_loud (refine wpList_make_full _ rfl (.tmp 17) (.tmp 17) 40 rfl wr.heap.size 9 i0 _ 1 Tryz.underlying40 hi0 hz0 hz1 .i64 .i64 _ _ (R.length + 1) rfl rfl (by simp) (by simp) (by rw [hz2]; omega) (by unfold maxLen; omega) (Nat.le_refl _) ?_; intro w5 hown hgrow))
      rw [str_made] at hown
      have HB5 := Lib.hid ((Below.refl wr.heap.size wr).grown hgrow (Nat.le_refl _) (fun j hj => by cases hj))
      have HO5 := Lib.hid (show w5.ownsRow wr.heap.size 9 1 (.slice (some ⟨wr.heap.size, 0, none⟩) (R.length + 1) (R.length + 1)) (R.length + 1) (strs (setsL A ⟨#[]⟩ 0)) from by rw [sets_zero, HAl.out]; exact hown)
      clear hown hgrow
      obtain ⟨w4, rfl⟩ : ∃ w4, w4 = wr := ⟨_, rfl⟩
      go_wp2_with fail
      go_loopw [21] (LnRel A (R.length + 1) w4) (fun v _ => R.length + 1 - (intOf v).toNat)
      case atStart => exact ⟨0, Nat.zero_le _, rfl, HO5, HB5⟩
      case round =>
        clear HO5 HB5
        obtain ⟨i, hi, rfl, HO, HBr⟩ := hrel
        by_cases hlt : i < R.length + 1
        · have d1 : decide ((i : Int) < (R.length : Int) + 1) = true := decide_eq_true (by omega)
          have HiA := Lib.hid (show i < A.length from by have := HAl.out; omega)
          obtain ⟨r, hr⟩ : ∃ r, (rowsJ R)[i]? = some r := ⟨_, List.getElem?_eq_getElem (by rw [HRn.out]; omega)⟩
          have HLi := Lib.hid (HAt.out i r hr)
          have HLn := Lib.hid (line_any i (fun c => padL c (wideJ (rowsJ R) c) (r c)) wr (HC.out.keep HBr.out) (fun c hc => al_get hr hc) (line_small HOk.out (List.mem_of_getElem? hr)) (fun c hc => by rw [al_len]; omega))
          clear hr
          generalize joinJ (rowL6 fun c => padL c (wideJ (rowsJ R) c) (r c)) = ln at HLi HLn
          go_wp2_with fail
          refine HLn.out.mono ?_
          rintro e w9 ⟨rfl, hb9⟩
          have HO9 := Lib.hid (owns_to HO.out hb9)
          have HB9 := Lib.hid (HBr.out.trans (hb9.mono HBr.out.size))
          clear hb9 HLn HO HBr
          have q3 : w9.cell? ⟨w4.heap.size, i, none⟩ = some (.string ((setsL A ⟨#[]⟩ i).getD i ⟨#[]⟩)) := owns_cell HO9.out (by
            unfold strs
            rw [List.getElem?_map, List.getD_eq_getElem?_getD, List.getElem?_eq_getElem (show i < (setsL A ⟨#[]⟩ i).length by rw [sets_len (Nat.le_of_lt HiA.out)]; exact HiA.out)]
            rfl)
          have q4 : w9.frozen? ⟨w4.heap.size, i, none⟩ = false := owns_frozen HO9.out i
          have HOn := Lib.hid (show (w9.setCell ⟨w4.heap.size, i, none⟩ (.string ln)).ownsRow w4.heap.size 9 1 (.slice (some ⟨w4.heap.size, 0, none⟩) (R.length + 1) (R.length + 1)) (R.length + 1) (strs (setsL A ⟨#[]⟩ (i + 1))) from by
            have := owns_setCell HO9.out (j := i) (by rw [strs_len, sets_len (Nat.le_of_lt HiA.out)]; exact HiA.out) (.string ln)
            rwa [strs_set, sets_step HLi.out] at this)
          have HBn := Lib.hid (HB9.out.setCell (p := ⟨w4.heap.size, i, none⟩) (Nat.le_refl _) (.string ln))
          generalize (setsL A ⟨#[]⟩ i).getD i ⟨#[]⟩ = old at q3
          go_wp2_with fail
          go_roundw
          case rel => exact ⟨i + 1, by omega, by simp, HOn, HBn⟩
          case measure => simp [intOf]; omega
        · obtain rfl : i = R.length + 1 := by omega
          have d1 : decide (((R.length + 1 : Nat) : Int) < (R.length : Int) + 1) = false := decide_eq_false (by omega)
          rw [← HAl.out, sets_all] at HO
          have HLo := Lib.hid (owns_low HO.out HB.out.size)
          have HBe := Lib.hid (HB.out.trans (HBr.out.mono HB.out.size))
          rw [HAl.out] at HLo
          clear HO HBr
          go_wp2_with fail
          go_ret
          exact ⟨_, rfl, by rw [HAl.out]; exact HLo.out, HBe.out⟩
end Go.Proofs.YtknfhphhcnbndaaGreatDoor.J
