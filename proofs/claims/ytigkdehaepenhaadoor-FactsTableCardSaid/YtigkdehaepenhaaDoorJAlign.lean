/-
  What facts' align does to a column, and what facts' line returns of a place. Conditions: the columns lie in memory; texts of at most 10000 bytes in the columns that are aligned, of at most 2000000 elsewhere.
-/
import Derived.Test.YtigkdehaepenhaaDoorJCols
import Derived.Test.YtigkdehaepenhaaDoorPadsLaw
set_option linter.unusedVariables false
set_option linter.unusedSimpArgs false
namespace Go.Proofs.YtigkdehaepenhaaDoor.J
open Go.Proofs.YtigkdehaepenhaaDoor.B
open Go.RowKit

/-- How wide a list of texts is. -/
def wideB (l : List ByteArray) : Nat := l.foldl (fun m s => max m s.size) 0
theorem wideB_snoc (l : List ByteArray) (s : ByteArray) : wideB (l ++ [s]) = max (wideB l) s.size := by
  unfold wideB
  rw [List.foldl_append]
  rfl
theorem wideB_is (rs : List Row6) (c : Nat) : wideB (rs.map fun r => r c) = wideJ rs c := by
  unfold wideB wideJ
  rw [List.foldl_map]
theorem wideB_le {l : List ByteArray} {K : Nat} (h : ∀ s ∈ l, s.size ≤ K) : wideB l ≤ K := by
  have key : ∀ (l : List ByteArray) (m : Nat), m ≤ K → (∀ s ∈ l, s.size ≤ K) → l.foldl (fun m s => max m s.size) m ≤ K := fun l => by
    induction l with
    | nil => intro m h _; exact h
    | cons x t ih =>
      intro m hm h
      rw [List.foldl_cons]
      exact ih _ (Nat.max_le.2 ⟨hm, h x List.mem_cons_self⟩) fun r hr => h r (List.mem_cons_of_mem _ hr)
  exact key l 0 (Nat.zero_le _) h
/-- The first i texts of a column aligned. -/
def padsL (c W : Nat) (l : List ByteArray) (i : Nat) : List ByteArray := (l.take i).map (padL c W) ++ l.drop i
theorem pads_zero (c W : Nat) (l : List ByteArray) : padsL c W l 0 = l := rfl
theorem pads_all (c W : Nat) (l : List ByteArray) : padsL c W l l.length = l.map (padL c W) := by
  unfold padsL
  rw [List.take_length, List.drop_length, List.append_nil]
theorem pads_len (c W : Nat) (l : List ByteArray) (i : Nat) : (padsL c W l i).length = l.length := by
  unfold padsL
  rw [List.length_append, List.length_map, List.length_take, List.length_drop]
  omega
theorem pads_at {c W : Nat} {l : List ByteArray} {i : Nat} {s : ByteArray} (h : l[i]? = some s) : (padsL c W l i)[i]? = some s := by
  have hi := (List.getElem?_eq_some_iff.1 h).1
  unfold padsL
  have e : ((l.take i).map (padL c W)).length = i := by rw [List.length_map, List.length_take]; omega
  rw [List.getElem?_append_right (by omega), e, Nat.sub_self, List.getElem?_drop, Nat.add_zero, h]
theorem pads_step {c W : Nat} {l : List ByteArray} {i : Nat} {s : ByteArray} (h : l[i]? = some s) : (padsL c W l i).set i (padL c W s) = padsL c W l (i + 1) := by
  obtain ⟨hi, hs⟩ := List.getElem?_eq_some_iff.1 h
  have e : ((l.take i).map (padL c W)).length = i := by rw [List.length_map, List.length_take]; omega
  unfold padsL
  rw [List.set_append_right _ _ (by omega), e, Nat.sub_self, List.drop_eq_getElem_cons hi, List.set_cons_zero, List.take_succ_eq_append_getElem hi, List.map_append, List.append_assoc, hs]
  rfl
theorem arr6 (b c : Nat) (w : World) (hc : c < 6) : (Instr.indexAt 40 (.pointer (some ⟨b, 0, none⟩)) (.int .i64 (c : Int))).run Tryd.prog w = .ok (.pointer (some ⟨b, c, none⟩)) w := by
  have hu : Tryd.prog.underlying 40 = some (.array (Tryd.prog.arrayLen 40) (Tryd.prog.elem 40)) := by kernel_rfl
  have hl : Tryd.prog.arrayLen 40 = 6 := by kernel_rfl
  have hs : ∀ W : World, (sizeOf (Tryd.prog.elem 40)).run Tryd.prog W = .ok 1 W := fun W => by kernel_rfl
  rw [run_indexAt_array _ _ _ _ _ hu, hl, if_pos ⟨by omega, by omega⟩, hs]
  show Result.ok _ w = _
  rw [Addr.add_mid, Int.toNat_natCast, Nat.mul_one, Nat.zero_add]
theorem exec_arrT {o : Oper} {a : Act} {w : World} (x i : Operand) (ho : o.op = .indexAddr 36 x i) (b c : Nat) (hc : c < 6) (hx : a.eval x = .pointer (some ⟨b, 0, none⟩)) (hi : a.eval i = .int .i64 (c : Int)) : (execOp a.eval o).run Tryd.prog w = .ok (.value (.pointer (some ⟨b, c, none⟩))) w := by
  simp [execOp, ho, hx, hi, arrT b c w hc, Result.andThen]
def WiRel (l : List ByteArray) (w : World) (v4 v17 : Value) (wr : World) : Prop := ∃ k : Nat, k ≤ l.length ∧ v17 = .int .i64 (k : Int) ∧ v4 = .int .i64 (wideB (l.take k) : Int) ∧ wr = w
def AlRel (Bs T : Nat) (G C : Nat → Nat) (X : Nat → List ByteArray) (c W : Nat) (w0 : World) (v : Value) (wr : World) : Prop :=
  ∃ k : Nat, k ≤ (X c).length ∧ v = .int .i64 (k : Int) ∧ Hid (Cols Bs T G C (up X c (padsL c W (X c) k)) wr) ∧ Hid (Below Bs w0 wr)
theorem take_by {l : List ByteArray} {k : Nat} {s : ByteArray} (h : l[k]? = some s) : l.take (k + 1) = l.take k ++ [s] := by
  obtain ⟨hk, he⟩ := List.getElem?_eq_some_iff.1 h
  rw [List.take_succ_eq_append_getElem hk, he]

set_option maxRecDepth 100000 in
set_option maxHeartbeats 16000000 in
theorem align_any {Bs T : Nat} {G C : Nat → Nat} {X : Nat → List ByteArray} (c : Nat) (hc : c < 6) (w0 w : World) (hC : Cols Bs T G C X w) (hb : Below Bs w0 w) (hX : c < 5 → ∀ s ∈ X c, s.size ≤ 100) (hl : (X c).length ≤ 1000000) (hn : 0 < (X c).length) :
    Calls Tryd.prog 11 #[.pointer (some ⟨T, 0, none⟩), .int .i64 (c : Int)] w fun e w' => e = .returned (.tuple #[]) ∧ Cols Bs T G C (up X c ((X c).map (padL c (wideB (X c))))) w' ∧ Below Bs w0 w' := by
  have HC0 := Lib.hid hC
  have HB0 := Lib.hid hb
  by_cases h5 : c = 5
  · have d0 : ((c : Int) == 5) = true := beq_iff_eq.2 (by omega)
    have HE := Lib.hid (show Cols Bs T G C (up X c ((X c).map (padL c (wideB (X c))))) w from hC.congr fun d hd => by
      unfold up
      by_cases h : d = c
      · rw [if_pos h, h]
        have e : padL c (wideB (X c)) = id := by
          funext s
          unfold padL
          rw [if_neg (by omega), if_neg (by omega)]
          rfl
        rw [e, List.map_id]
      · rw [if_neg h])
    clear hC hb h5
    go_enter Tryd.func11, Tryd.ntmps11
    go_wp2_with fail
    exact bodyPost_ret (v := .tuple #[]) (by simp [results, Tryd.results11, go_sem]) rfl ⟨rfl, HE.out, HB0.out⟩
  · have d0 : ((c : Int) == 5) = false := beq_eq_false_iff_ne.2 (by omega)
    have hc5 : c < 5 := by omega
    have HXs := Lib.hid (hX (by omega))
    obtain ⟨l, hlX⟩ : ∃ l, X c = l := ⟨_, rfl⟩
    have HlX := Lib.hid hlX
    have HW := Lib.hid (show wideB l ≤ 100 from by rw [← hlX]; exact wideB_le HXs.out)
    rw [hlX] at HXs hl hn
    have hT := (hC.cell hc).1
    unfold slJ at hT
    rw [hlX] at hT ⊢
    have harr := fun w => arrT T c w hc
    have HOw := Lib.hid (hC.own c hc)
    clear hC hb hX hlX h5
    go_enter Tryd.func11, Tryd.ntmps11
    go_upto_region 3 with fail
    go_loopw [4, 17] (WiRel l w) (fun _ v _ => l.length - (intOf v).toNat)
    case atStart => exact ⟨0, Nat.zero_le _, rfl, rfl, rfl⟩
    case round =>
      obtain ⟨k, hk, rfl, rfl, rfl⟩ := hrel
      by_cases hlt : k < l.length
      · have d1 : decide ((k : Int) < (l.length : Int)) = true := decide_eq_true (by omega)
        obtain ⟨s, hs⟩ : ∃ s, l[k]? = some s := ⟨_, List.getElem?_eq_getElem hlt⟩
        have hcs := (HC0.out.text hc (i := k) (s := s) (by rw [HlX.out]; exact hs)).1
        have HTk := Lib.hid (show wideB (l.take (k + 1)) = max (wideB (l.take k)) s.size from by rw [take_by hs, wideB_snoc])
        have HSs := Lib.hid (HXs.out s (List.mem_of_getElem? hs))
        clear hs
        generalize wideB (l.take k) = W at HTk
        go_wp2_with fail
        go_roundw
        case rel => exact ⟨k + 1, by omega, by simp, by rw [HTk.out]; simp; omega, rfl⟩
        case measure => simp [intOf]; omega
      · obtain rfl : k = l.length := by omega
        have d1 : decide (((l.length : Nat) : Int) < (l.length : Int)) = false := decide_eq_false (by omega)
        have eT : wideB (l.take l.length) = wideB l := by rw [List.take_length]
        rw [eT]
        clear eT
        obtain ⟨W, hW⟩ : ∃ W, wideB l = W := ⟨_, rfl⟩
        have HWe := Lib.hid hW
        rw [hW] at HW ⊢
        have HCs := Lib.hid (show Cols Bs T G C (up X c (padsL c W (X c) 0)) wr from HC0.out.congr fun d hd => by
          unfold up
          by_cases h : d = c
          · rw [if_pos h, h, pads_zero]
          · rw [if_neg h])
        clear HC0 hW
        go_upto_region 8 with fail
        obtain ⟨w3, rfl⟩ : ∃ w3, w3 = wr := ⟨_, rfl⟩
        go_loopw [32] (AlRel Bs T G C X c W w0) (fun v _ => l.length - (intOf v).toNat)
        case atStart => exact ⟨0, Nat.zero_le _, rfl, HCs, HB0⟩
        case round =>
          clear HCs HB0 hT harr
          obtain ⟨k, hk, rfl, HC, HB⟩ := hrel
          rw [HlX.out] at hk
          by_cases hlt : k < l.length
          · have d1 : decide ((k : Int) < (l.length : Int)) = true := decide_eq_true (by omega)
            obtain ⟨s, hs⟩ : ∃ s, l[k]? = some s := ⟨_, List.getElem?_eq_getElem hlt⟩
            have hsX : (X c)[k]? = some s := by rw [HlX.out]; exact hs
            have HKp := Lib.hid (show ∀ Y, Below wr.heap.size wr Y → Y.cell? ⟨T, c, none⟩ = some (.slice (some ⟨G c, 0, none⟩) l.length (C c)) ∧ Y.cell? ⟨G c, k, none⟩ = some (.string s) ∧ Y.frozen? ⟨G c, k, none⟩ = false ∧ Cols Bs T G C (up X c (padsL c W (X c) (k + 1))) (Y.setCell ⟨G c, k, none⟩ (.string (padL c W s))) ∧ Below Bs w0 (Y.setCell ⟨G c, k, none⟩ (.string (padL c W s))) from fun Y hY => by
              have q := HC.out.keep hY
              have q1 := (q.cell hc).1
              have q2 := q.text hc (i := k) (s := s) (by rw [up_here]; exact pads_at hsX)
              have q3 := q.put hc (i := k) (by rw [up_here, pads_len, HlX.out]; exact hlt) (padL c W s)
              unfold slJ at q1
              rw [up_here, pads_len, HlX.out] at q1
              refine ⟨q1, q2.1, q2.2, q3.congr fun d hd => ?_, (HB.out.trans (hY.mono (Nat.le_of_lt (Nat.lt_of_le_of_lt (HC.out.lt hc).1 (HC.out.lt hc).2)))).setCell (p := ⟨G c, k, none⟩) (q.lt hc).1 _⟩
              unfold up
              by_cases h : d = c
              · rw [if_pos h, if_pos h, if_pos rfl, pads_step hsX]
              · rw [if_neg h, if_neg h, if_neg h])
            have HSs := Lib.hid (HXs.out s (List.mem_of_getElem? hs))
            have hss := HSs.out
            have hcs := (HKp.out _ (Below.refl _ _)).2.1
            have hW1 := HW.out
            have HLk := Lib.hid (lack_small (a := s.size) (b := W) (by omega) (by omega))
            obtain ⟨ps, hps⟩ : ∃ ps, padL c W s = ps := ⟨_, rfl⟩
            have HPs := Lib.hid hps
            rw [hps] at HKp
            clear hs hsX hps
            go_upto_region 10 with fail
            by_cases h0 : c = 0
            · have d2 : ((c : Int) == 0) = true := beq_iff_eq.2 (by omega)
              have HCl := Lib.hid (fun (Y : World) => N.left_any s (s.size : Int) (W : Int) Y hss)
              rw [HLk.out] at HCl
              have e : s ++ N.blankS (W - s.size) = ps := by rw [← HPs.out]; unfold padL; rw [if_pos h0]
              rw [e] at HCl
              clear e h0
              go_upto_region 11 with fail
-- TILL 11
              refine B.Till.region (z := 12) (S := fun w' => Below wr.heap.size wr w') (by kernel_rfl) ((Below.refl _ _).drew) (fun hHeld => ?_)
              refine B.Till.take (i := 0) (oi := { dst := some 39, op := Op.move (Operand.tmp 0), type := 62, pos := "facts.go:245", after := #[], guard := none }) (v := .pointer (some ⟨T, 0, none⟩)) rfl (by kernel_rfl) (by kernel_rfl) (by kernel_rfl) (by kernel_rfl) (fun _ _ _ h => h) (Or.inl ⟨by rfl, fun w0 hS0 => ?_⟩) (by assumption) ?_
              · go_simp
              try simp only [Act.put, List.setIfInBounds_toArray, List.set_cons_zero, List.set_cons_succ]
              refine B.Till.take (i := 1) (oi := { dst := some 40, op := Op.move (Operand.tmp 1), type := 3, pos := "facts.go:245", after := #[], guard := none }) (v := .int .i64 (c : Int)) rfl (by kernel_rfl) (by kernel_rfl) (by kernel_rfl) (by kernel_rfl) (fun _ _ _ h => h) (Or.inl ⟨by rfl, fun w0 hS0 => ?_⟩) (by assumption) ?_
              · go_simp
              try simp only [Act.put, List.setIfInBounds_toArray, List.set_cons_zero, List.set_cons_succ]
              refine B.Till.take (i := 2) (oi := { dst := some 41, op := Op.nilCheck (Operand.tmp 39), type := 0, pos := "facts.go:245", after := #[{ on := 0, ground := Ground.data }], guard := none }) (v := .pointer (some ⟨T, 0, none⟩)) rfl (by kernel_rfl) (by kernel_rfl) (by kernel_rfl) (by kernel_rfl) (fun _ _ _ h => h) (Or.inl ⟨by rfl, fun w0 hS0 => ?_⟩) (by assumption) ?_
              · go_simp
              try simp only [Act.put, List.setIfInBounds_toArray, List.set_cons_zero, List.set_cons_succ]
              refine B.Till.take (i := 3) (oi := { dst := some 42, op := Op.indexAddr 36 (Operand.tmp 41) (Operand.tmp 40), type := 0, pos := "facts.go:245", after := #[{ on := 2, ground := Ground.data }, { on := 1, ground := Ground.data }], guard := none }) (v := .pointer (some ⟨T, c, none⟩)) rfl (by kernel_rfl) (by kernel_rfl) (by kernel_rfl) (by kernel_rfl) (fun _ _ _ h => h) (Or.inl ⟨by rfl, fun w0 hS0 => exec_arrT (.tmp 41) (.tmp 40) rfl T c hc rfl rfl⟩) (by assumption) ?_
              try simp only [Act.put, List.setIfInBounds_toArray, List.set_cons_zero, List.set_cons_succ]
              refine B.Till.take (i := 4) (oi := { dst := some 43, op := Op.load 27 (Operand.tmp 42), type := 27, pos := "facts.go:245", after := #[{ on := 3, ground := Ground.data }], guard := none }) (v := .slice (some ⟨G c, 0, none⟩) l.length (C c)) rfl (by kernel_rfl) (by kernel_rfl) (by kernel_rfl) (by kernel_rfl) (fun _ _ _ h => h) (Or.inl ⟨by rfl, fun w0 hS0 => ?_⟩) (by assumption) ?_
              · have b4 := (HKp.out _ hS0).1; go_simp
              try simp only [Act.put, List.setIfInBounds_toArray, List.set_cons_zero, List.set_cons_succ]
              refine B.Till.take (i := 5) (oi := { dst := some 44, op := Op.move (Operand.tmp 7), type := 3, pos := "facts.go:245", after := #[], guard := none }) (v := .int .i64 (k : Int)) rfl (by kernel_rfl) (by kernel_rfl) (by kernel_rfl) (by kernel_rfl) (fun _ _ _ h => h) (Or.inl ⟨by rfl, fun w0 hS0 => ?_⟩) (by assumption) ?_
              · go_simp
              try simp only [Act.put, List.setIfInBounds_toArray, List.set_cons_zero, List.set_cons_succ]
              refine B.Till.take (i := 6) (oi := { dst := some 45, op := Op.move (Operand.tmp 8), type := 9, pos := "facts.go:245", after := #[], guard := none }) (v := .string s) rfl (by kernel_rfl) (by kernel_rfl) (by kernel_rfl) (by kernel_rfl) (fun _ _ _ h => h) (Or.inl ⟨by rfl, fun w0 hS0 => ?_⟩) (by assumption) ?_
              · go_simp
              try simp only [Act.put, List.setIfInBounds_toArray, List.set_cons_zero, List.set_cons_succ]
              refine B.Till.take (i := 7) (oi := { dst := some 46, op := Op.move (Operand.tmp 8), type := 9, pos := "facts.go:245", after := #[], guard := none }) (v := .string s) rfl (by kernel_rfl) (by kernel_rfl) (by kernel_rfl) (by kernel_rfl) (fun _ _ _ h => h) (Or.inl ⟨by rfl, fun w0 hS0 => ?_⟩) (by assumption) ?_
              · go_simp
              try simp only [Act.put, List.setIfInBounds_toArray, List.set_cons_zero, List.set_cons_succ]
              refine B.Till.take (i := 8) (oi := { dst := some 47, op := Op.call { callee := Callee.builtin Builtin.len, args := #[Operand.tmp 46], argTypes := #[9] }, type := 3, pos := "facts.go:245", after := #[{ on := 7, ground := Ground.data }], guard := none }) (v := .int .i64 (s.size : Int)) rfl (by kernel_rfl) (by kernel_rfl) (by kernel_rfl) (by kernel_rfl) (fun _ _ _ h => h) (Or.inl ⟨by rfl, fun w0 hS0 => ?_⟩) (by assumption) ?_
              · go_simp
              try simp only [Act.put, List.setIfInBounds_toArray, List.set_cons_zero, List.set_cons_succ]
              refine B.Till.take (i := 9) (oi := { dst := some 48, op := Op.move (Operand.tmp 4), type := 3, pos := "facts.go:245", after := #[], guard := none }) (v := .int .i64 (W : Int)) rfl (by kernel_rfl) (by kernel_rfl) (by kernel_rfl) (by kernel_rfl) (fun _ _ _ h => h) (Or.inl ⟨by rfl, fun w0 hS0 => ?_⟩) (by assumption) ?_
              · go_simp
              try simp only [Act.put, List.setIfInBounds_toArray, List.set_cons_zero, List.set_cons_succ]
              refine B.Till.next (i := 10) (o := { dst := some 49, op := Op.call { callee := Callee.value (Operand.func 21), args := #[Operand.tmp 45, Operand.tmp 47, Operand.tmp 48], argTypes := #[9, 3, 3] }, type := 9, pos := "facts.go:245", after := #[{ on := 6, ground := Ground.data }, { on := 8, ground := Ground.data }, { on := 9, ground := Ground.data }], guard := none }) (by kernel_rfl) rfl (fun K hK => ?_)
              go_simp
              refine (HCl.out _).mono ?_
              rintro e w9 ⟨rfl, hb9⟩
              have hH9 : Below wr.heap.size wr w9 := hHeld.trans hb9
              clear hb9
              go_wp2_with fail
              refine hK.out _ _ (fun _ => hH9) ?_
              clear hK K
              try simp only [Act.put, List.setIfInBounds_toArray, List.set_cons_zero, List.set_cons_succ]
              refine B.Till.take (i := 11) (oi := { dst := some 50, op := Op.indexAddr 27 (Operand.tmp 43) (Operand.tmp 44), type := 0, pos := "facts.go:245", after := #[{ on := 4, ground := Ground.data }, { on := 5, ground := Ground.data }, { on := 0, ground := Ground.phase }, { on := 1, ground := Ground.phase }, { on := 2, ground := Ground.phase }, { on := 3, ground := Ground.phase }, { on := 4, ground := Ground.phase }, { on := 5, ground := Ground.phase }, { on := 6, ground := Ground.phase }, { on := 7, ground := Ground.phase }, { on := 8, ground := Ground.phase }, { on := 9, ground := Ground.phase }, { on := 10, ground := Ground.phase }], guard := none }) (v := .pointer (some ⟨G c, k, none⟩)) rfl (by kernel_rfl) (by kernel_rfl) (by kernel_rfl) (by kernel_rfl) (fun _ _ _ h => h) (Or.inl ⟨by rfl, fun w0 hS0 => ?_⟩) (by assumption) ?_
              · go_simp
              try simp only [Act.put, List.setIfInBounds_toArray, List.set_cons_zero, List.set_cons_succ]
              refine B.Till.next (i := 12) (o := { dst := none, op := Op.store 9 (Operand.tmp 50) (Operand.tmp 49), type := 0, pos := "facts.go:245", after := #[{ on := 11, ground := Ground.data }, { on := 10, ground := Ground.data }, { on := 10, ground := Ground.chain }, { on := 0, ground := Ground.phase }, { on := 1, ground := Ground.phase }, { on := 2, ground := Ground.phase }, { on := 3, ground := Ground.phase }, { on := 4, ground := Ground.phase }, { on := 5, ground := Ground.phase }, { on := 6, ground := Ground.phase }, { on := 7, ground := Ground.phase }, { on := 8, ground := Ground.phase }, { on := 9, ground := Ground.phase }, { on := 10, ground := Ground.phase }], guard := none }) (by kernel_rfl) rfl (fun K hK => ?_)
              have HKe := Lib.hid (HKp.out _ hH9)
              have q3 := HKe.out.2.1
              have q4 := HKe.out.2.2.1
              go_simp
              refine hK.out _ _ (fun q => absurd rfl q) ?_
              clear hK K
              try simp only [Act.put, List.setIfInBounds_toArray, List.set_cons_zero, List.set_cons_succ]
              refine B.Till.done (by kernel_rfl) ?_
-- TILL 11 END
              go_wp2_with fail
              go_roundw
              case rel => exact ⟨k + 1, by rw [HlX.out]; omega, by simp, Lib.hid HKe.out.2.2.2.1, Lib.hid HKe.out.2.2.2.2⟩
              case measure => simp [intOf]; omega
            · have d2 : ((c : Int) == 0) = false := beq_eq_false_iff_ne.2 (by omega)
              have HCl := Lib.hid (fun (Y : World) => N.right_any s (s.size : Int) (W : Int) Y hss)
              rw [HLk.out] at HCl
              have e : N.blankS (W - s.size) ++ s = ps := by rw [← HPs.out]; unfold padL; rw [if_neg h0, if_pos (by omega)]
              rw [e] at HCl
              clear e h0
              go_upto_region 12 with fail
-- TILL 12
              refine B.Till.region (z := 12) (S := fun w' => Below wr.heap.size wr w') (by kernel_rfl) ((Below.refl _ _).drew) (fun hHeld => ?_)
              refine B.Till.take (i := 0) (oi := { dst := some 51, op := Op.move (Operand.tmp 0), type := 62, pos := "facts.go:247", after := #[], guard := none }) (v := .pointer (some ⟨T, 0, none⟩)) rfl (by kernel_rfl) (by kernel_rfl) (by kernel_rfl) (by kernel_rfl) (fun _ _ _ h => h) (Or.inl ⟨by rfl, fun w0 hS0 => ?_⟩) (by assumption) ?_
              · go_simp
              try simp only [Act.put, List.setIfInBounds_toArray, List.set_cons_zero, List.set_cons_succ]
              refine B.Till.take (i := 1) (oi := { dst := some 52, op := Op.move (Operand.tmp 1), type := 3, pos := "facts.go:247", after := #[], guard := none }) (v := .int .i64 (c : Int)) rfl (by kernel_rfl) (by kernel_rfl) (by kernel_rfl) (by kernel_rfl) (fun _ _ _ h => h) (Or.inl ⟨by rfl, fun w0 hS0 => ?_⟩) (by assumption) ?_
              · go_simp
              try simp only [Act.put, List.setIfInBounds_toArray, List.set_cons_zero, List.set_cons_succ]
              refine B.Till.take (i := 2) (oi := { dst := some 53, op := Op.nilCheck (Operand.tmp 51), type := 0, pos := "facts.go:247", after := #[{ on := 0, ground := Ground.data }], guard := none }) (v := .pointer (some ⟨T, 0, none⟩)) rfl (by kernel_rfl) (by kernel_rfl) (by kernel_rfl) (by kernel_rfl) (fun _ _ _ h => h) (Or.inl ⟨by rfl, fun w0 hS0 => ?_⟩) (by assumption) ?_
              · go_simp
              try simp only [Act.put, List.setIfInBounds_toArray, List.set_cons_zero, List.set_cons_succ]
              refine B.Till.take (i := 3) (oi := { dst := some 54, op := Op.indexAddr 36 (Operand.tmp 53) (Operand.tmp 52), type := 0, pos := "facts.go:247", after := #[{ on := 2, ground := Ground.data }, { on := 1, ground := Ground.data }], guard := none }) (v := .pointer (some ⟨T, c, none⟩)) rfl (by kernel_rfl) (by kernel_rfl) (by kernel_rfl) (by kernel_rfl) (fun _ _ _ h => h) (Or.inl ⟨by rfl, fun w0 hS0 => exec_arrT (.tmp 53) (.tmp 52) rfl T c hc rfl rfl⟩) (by assumption) ?_
              try simp only [Act.put, List.setIfInBounds_toArray, List.set_cons_zero, List.set_cons_succ]
              refine B.Till.take (i := 4) (oi := { dst := some 55, op := Op.load 27 (Operand.tmp 54), type := 27, pos := "facts.go:247", after := #[{ on := 3, ground := Ground.data }], guard := none }) (v := .slice (some ⟨G c, 0, none⟩) l.length (C c)) rfl (by kernel_rfl) (by kernel_rfl) (by kernel_rfl) (by kernel_rfl) (fun _ _ _ h => h) (Or.inl ⟨by rfl, fun w0 hS0 => ?_⟩) (by assumption) ?_
              · have b4 := (HKp.out _ hS0).1; go_simp
              try simp only [Act.put, List.setIfInBounds_toArray, List.set_cons_zero, List.set_cons_succ]
              refine B.Till.take (i := 5) (oi := { dst := some 56, op := Op.move (Operand.tmp 7), type := 3, pos := "facts.go:247", after := #[], guard := none }) (v := .int .i64 (k : Int)) rfl (by kernel_rfl) (by kernel_rfl) (by kernel_rfl) (by kernel_rfl) (fun _ _ _ h => h) (Or.inl ⟨by rfl, fun w0 hS0 => ?_⟩) (by assumption) ?_
              · go_simp
              try simp only [Act.put, List.setIfInBounds_toArray, List.set_cons_zero, List.set_cons_succ]
              refine B.Till.take (i := 6) (oi := { dst := some 57, op := Op.move (Operand.tmp 8), type := 9, pos := "facts.go:247", after := #[], guard := none }) (v := .string s) rfl (by kernel_rfl) (by kernel_rfl) (by kernel_rfl) (by kernel_rfl) (fun _ _ _ h => h) (Or.inl ⟨by rfl, fun w0 hS0 => ?_⟩) (by assumption) ?_
              · go_simp
              try simp only [Act.put, List.setIfInBounds_toArray, List.set_cons_zero, List.set_cons_succ]
              refine B.Till.take (i := 7) (oi := { dst := some 58, op := Op.move (Operand.tmp 8), type := 9, pos := "facts.go:247", after := #[], guard := none }) (v := .string s) rfl (by kernel_rfl) (by kernel_rfl) (by kernel_rfl) (by kernel_rfl) (fun _ _ _ h => h) (Or.inl ⟨by rfl, fun w0 hS0 => ?_⟩) (by assumption) ?_
              · go_simp
              try simp only [Act.put, List.setIfInBounds_toArray, List.set_cons_zero, List.set_cons_succ]
              refine B.Till.take (i := 8) (oi := { dst := some 59, op := Op.call { callee := Callee.builtin Builtin.len, args := #[Operand.tmp 58], argTypes := #[9] }, type := 3, pos := "facts.go:247", after := #[{ on := 7, ground := Ground.data }], guard := none }) (v := .int .i64 (s.size : Int)) rfl (by kernel_rfl) (by kernel_rfl) (by kernel_rfl) (by kernel_rfl) (fun _ _ _ h => h) (Or.inl ⟨by rfl, fun w0 hS0 => ?_⟩) (by assumption) ?_
              · go_simp
              try simp only [Act.put, List.setIfInBounds_toArray, List.set_cons_zero, List.set_cons_succ]
              refine B.Till.take (i := 9) (oi := { dst := some 60, op := Op.move (Operand.tmp 4), type := 3, pos := "facts.go:247", after := #[], guard := none }) (v := .int .i64 (W : Int)) rfl (by kernel_rfl) (by kernel_rfl) (by kernel_rfl) (by kernel_rfl) (fun _ _ _ h => h) (Or.inl ⟨by rfl, fun w0 hS0 => ?_⟩) (by assumption) ?_
              · go_simp
              try simp only [Act.put, List.setIfInBounds_toArray, List.set_cons_zero, List.set_cons_succ]
              refine B.Till.next (i := 10) (o := { dst := some 61, op := Op.call { callee := Callee.value (Operand.func 22), args := #[Operand.tmp 57, Operand.tmp 59, Operand.tmp 60], argTypes := #[9, 3, 3] }, type := 9, pos := "facts.go:247", after := #[{ on := 6, ground := Ground.data }, { on := 8, ground := Ground.data }, { on := 9, ground := Ground.data }], guard := none }) (by kernel_rfl) rfl (fun K hK => ?_)
              go_simp
              refine (HCl.out _).mono ?_
              rintro e w9 ⟨rfl, hb9⟩
              have hH9 : Below wr.heap.size wr w9 := hHeld.trans hb9
              clear hb9
              go_wp2_with fail
              refine hK.out _ _ (fun _ => hH9) ?_
              clear hK K
              try simp only [Act.put, List.setIfInBounds_toArray, List.set_cons_zero, List.set_cons_succ]
              refine B.Till.take (i := 11) (oi := { dst := some 62, op := Op.indexAddr 27 (Operand.tmp 55) (Operand.tmp 56), type := 0, pos := "facts.go:247", after := #[{ on := 4, ground := Ground.data }, { on := 5, ground := Ground.data }, { on := 0, ground := Ground.phase }, { on := 1, ground := Ground.phase }, { on := 2, ground := Ground.phase }, { on := 3, ground := Ground.phase }, { on := 4, ground := Ground.phase }, { on := 5, ground := Ground.phase }, { on := 6, ground := Ground.phase }, { on := 7, ground := Ground.phase }, { on := 8, ground := Ground.phase }, { on := 9, ground := Ground.phase }, { on := 10, ground := Ground.phase }], guard := none }) (v := .pointer (some ⟨G c, k, none⟩)) rfl (by kernel_rfl) (by kernel_rfl) (by kernel_rfl) (by kernel_rfl) (fun _ _ _ h => h) (Or.inl ⟨by rfl, fun w0 hS0 => ?_⟩) (by assumption) ?_
              · go_simp
              try simp only [Act.put, List.setIfInBounds_toArray, List.set_cons_zero, List.set_cons_succ]
              refine B.Till.next (i := 12) (o := { dst := none, op := Op.store 9 (Operand.tmp 62) (Operand.tmp 61), type := 0, pos := "facts.go:247", after := #[{ on := 11, ground := Ground.data }, { on := 10, ground := Ground.data }, { on := 10, ground := Ground.chain }, { on := 0, ground := Ground.phase }, { on := 1, ground := Ground.phase }, { on := 2, ground := Ground.phase }, { on := 3, ground := Ground.phase }, { on := 4, ground := Ground.phase }, { on := 5, ground := Ground.phase }, { on := 6, ground := Ground.phase }, { on := 7, ground := Ground.phase }, { on := 8, ground := Ground.phase }, { on := 9, ground := Ground.phase }, { on := 10, ground := Ground.phase }], guard := none }) (by kernel_rfl) rfl (fun K hK => ?_)
              have HKe := Lib.hid (HKp.out _ hH9)
              have q3 := HKe.out.2.1
              have q4 := HKe.out.2.2.1
              go_simp
              refine hK.out _ _ (fun q => absurd rfl q) ?_
              clear hK K
              try simp only [Act.put, List.setIfInBounds_toArray, List.set_cons_zero, List.set_cons_succ]
              refine B.Till.done (by kernel_rfl) ?_
-- TILL 12 END
              go_wp2_with fail
              go_roundw
              case rel => exact ⟨k + 1, by rw [HlX.out]; omega, by simp, Lib.hid HKe.out.2.2.2.1, Lib.hid HKe.out.2.2.2.2⟩
              case measure => simp [intOf]; omega
          · obtain rfl : k = l.length := by omega
            have d1 : decide (((l.length : Nat) : Int) < (l.length : Int)) = false := decide_eq_false (by omega)
            have HE := Lib.hid (show Cols Bs T G C (up X c (l.map (padL c W))) wr from HC.out.congr fun d hd => by
              unfold up
              by_cases h : d = c
              · rw [if_pos h, if_pos h, HlX.out, pads_all]
              · rw [if_neg h, if_neg h])
            go_wp2_with fail
            go_end0
            exact ⟨rfl, by rw [HWe.out]; exact HE.out, HB.out⟩

/-! ### line -/
def partA (r : Row6) (c : Nat) : Array Value := #[if 0 < c then .string (r 0) else .string ⟨#[]⟩, if 1 < c then .string (r 1) else .string ⟨#[]⟩, if 2 < c then .string (r 2) else .string ⟨#[]⟩, if 3 < c then .string (r 3) else .string ⟨#[]⟩, if 4 < c then .string (r 4) else .string ⟨#[]⟩, if 5 < c then .string (r 5) else .string ⟨#[]⟩]
theorem part_set (r : Row6) {c : Nat} (hc : c < 6) : (partA r c).setIfInBounds c (.string (r c)) = partA r (c + 1) := by
  rcases six_cases hc with rfl | rfl | rfl | rfl | rfl | rfl <;> rfl
theorem part_get (r : Row6) {c : Nat} (hc : c < 6) : ∃ v, (partA r c)[c]? = some v := by
  rcases six_cases hc with rfl | rfl | rfl | rfl | rfl | rfl <;> exact ⟨_, rfl⟩
def LiRel (r : Row6) (B0 : Nat) (w : World) (v : Value) (wr : World) : Prop := ∃ c : Nat, c ≤ 6 ∧ v = .int .i64 (c : Int) ∧ Hid (wr.heap[B0]? = some (.cells (partA r c) 40 (0, 0))) ∧ Hid (Below w.heap.size w wr)
def rowL6 (r : Row6) : List ByteArray := [r 0, r 1, r 2, r 3, r 4, r 5]
theorem join6_any (r : Row6) (B0 : Nat) (w : World) (hb : w.heap[B0]? = some (.cells (partA r 6) 40 (0, 0))) (hz : ∀ c, c < 6 → (r c).size ≤ 2000000) :
    Calls Tryd.prog 23 #[.slice (some ⟨B0, 0, none⟩) 6 6, .string ⟨#[32]⟩] w fun e w' => e = .returned (.string (joinJ (rowL6 r))) ∧ Below w.heap.size w w' := by
  have e32 : (⟨#[32]⟩ : ByteArray).data.toList = [32] := rfl
  have hlen : (Lib.join ((rowL6 r).map (·.data.toList)) (⟨#[32]⟩ : ByteArray).data.toList).length ≤ 140737488355328 := by
    have h0 := hz 0 (by decide)
    have h1 := hz 1 (by decide)
    have h2 := hz 2 (by decide)
    have h3 := hz 3 (by decide)
    have h4 := hz 4 (by decide)
    have h5 := hz 5 (by decide)
    have e : ∀ s : ByteArray, s.data.toList.length = s.size := fun s => size_list s
    rw [e32]
    unfold rowL6
    simp only [List.map_cons, List.map_nil, Lib.join_cons, Lib.joinTail, List.flatten_cons, List.flatten_nil, List.length_append, List.length_cons, List.length_nil, e]
    omega
  refine (Tryd.strings_Join B0 0 6 (rowL6 r) ⟨#[32]⟩ w (fun j x hx => ?_) (heap_lt hb) (by show 6 ≤ _; omega) (Nat.le_refl _) hlen).mono ?_
  · rw [Nat.zero_add, cell_of_row _ _ _ _ _ _ hb]
    have hj := (List.getElem?_eq_some_iff.1 hx).1
    rcases six_cases (show j < 6 from hj) with rfl | rfl | rfl | rfl | rfl | rfl <;> (obtain rfl := Option.some.inj hx; rfl)
  · rintro e w' ⟨rfl, hb⟩
    exact ⟨rfl, hb⟩

set_option maxRecDepth 100000 in
set_option maxHeartbeats 8000000 in
theorem line_any {Bs T : Nat} {G C : Nat → Nat} {X : Nat → List ByteArray} (i : Nat) (r : Row6) (w : World) (hC : Cols Bs T G C X w) (hr : ∀ c, c < 6 → (X c)[i]? = some (r c)) (hz : ∀ c, c < 6 → (r c).size ≤ 2000000) (hl : ∀ c, c < 6 → (X c).length ≤ 1000000) :
    Calls Tryd.prog 12 #[.pointer (some ⟨T, 0, none⟩), .int .i64 (i : Int)] w fun e w' => e = .returned (.string (joinJ (rowL6 r))) ∧ Below w.heap.size w w' := by
  have HC := Lib.hid hC
  have HRr := Lib.hid hr
  have HJ := Lib.hid (fun (Y : World) (B0 : Nat) (hb : Y.heap[B0]? = some (.cells (partA r 6) 40 (0, 0))) => join6_any r B0 Y hb hz)
  have HLl := Lib.hid (fun c (hc : c < 6) => (show i < (X c).length ∧ (X c).length ≤ 1000000 from ⟨(List.getElem?_eq_some_iff.1 (hr c hc)).1, hl c hc⟩))
  clear hC hr hz hl
  go_enter Tryd.func12, Tryd.ntmps12
  go_upto_region 2 with fail
  have HX1 := Lib.hid (heap_alloc_new w (.cells #[.string ⟨#[]⟩, .string ⟨#[]⟩, .string ⟨#[]⟩, .string ⟨#[]⟩, .string ⟨#[]⟩, .string ⟨#[]⟩] 40))
  have HB1 := Lib.hid (show Below w.heap.size w (w.alloc (.cells #[.string ⟨#[]⟩, .string ⟨#[]⟩, .string ⟨#[]⟩, .string ⟨#[]⟩, .string ⟨#[]⟩, .string ⟨#[]⟩] 40)) from (Below.refl _ _).alloc (Nat.le_refl _) _)
  generalize w.alloc (.cells #[.string ⟨#[]⟩, .string ⟨#[]⟩, .string ⟨#[]⟩, .string ⟨#[]⟩, .string ⟨#[]⟩, .string ⟨#[]⟩] 40) = w1 at HX1 HB1 ⊢
  obtain ⟨B0, hB0⟩ : ∃ B0, w.heap.size = B0 := ⟨_, rfl⟩
  have HB0 := Lib.hid hB0
  rw [hB0] at HX1 ⊢
  clear hB0
  go_wp2_with fail
  go_loopw [7] (LiRel r B0 w) (fun v _ => 6 - (intOf v).toNat)
  case atStart => exact ⟨0, by omega, rfl, HX1, HB1⟩
  case round =>
    clear HX1 HB1
    obtain ⟨c, hc, rfl, HX, HB⟩ := hrel
    by_cases hc6 : c < 6
    · have d0 : decide ((c : Int) < 6) = true := decide_eq_true (by omega)
      have q := HC.out.keep HB.out
      have hT := (q.cell hc6).1
      have hcs := (q.text hc6 (i := i) (s := r c) (HRr.out c hc6)).1
      have hLl := HLl.out c hc6
      have harr := fun w => arrT T c w hc6
      have har6 := fun w => arr6 B0 c w hc6
      obtain ⟨ov, hov⟩ := part_get r hc6
      have hov2 : wr.cell? ⟨B0, c, none⟩ = some ov := by rw [cell_of_row _ _ _ _ _ _ HX.out]; exact hov
      have hfr : wr.frozen? ⟨B0, c, none⟩ = false := frozen_of_row _ _ _ _ _ HX.out
      have HX2 := Lib.hid (show (wr.setCell ⟨B0, c, none⟩ (.string (r c))).heap[B0]? = some (.cells (partA r (c + 1)) 40 (0, 0)) from by rw [heap_setCell_same _ _ _ _ _ _ HX.out, part_set r hc6])
      have hb0 := HB0.out
      have HB2 := Lib.hid (HB.out.setCell (p := ⟨B0, c, none⟩) (by show w.heap.size ≤ B0; omega) (.string (r c)))
      unfold slJ at hT
      clear q hov
      go_wp2_with fail
      go_roundw
      case rel => exact ⟨c + 1, by omega, by simp, HX2, HB2⟩
      case measure => simp [intOf]; omega
    · obtain rfl : c = 6 := by omega
      have d0 : decide (((6 : Nat) : Int) < 6) = false := by decide
      have HJ1 := Lib.hid (HJ.out wr B0 HX.out)
      go_wp2_with (go_at_call 23; refine HJ1.out.mono ?_; rintro e w2 ⟨rfl, hb2⟩; have HB2 := Lib.hid (below_two HB.out hb2); clear hb2)
      go_ret
      exact ⟨rfl, HB2.out⟩
end Go.Proofs.YtigkdehaepenhaaDoor.J
