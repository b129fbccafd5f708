/-
  What the reference's Tokens returns. Conditions: a text of at most 60000 bytes.
-/
import Derived.Test.YteeddednonmglaaDoorOTokM
import Derived.Deep.AppendLies
import Derived.Deep.RegionLaw
set_option linter.unusedVariables false
namespace Go.Proofs.YteeddednonmglaaDoor
open Go.RowKit

theorem infoStr : (Tryd.prog.info? 9).map (fun i => (i.zero, i.size, i.bytes)) = some (some (.string ⟨#[]⟩), 1, 16) := by kernel_rfl
def TokRel (s : ByteArray) (w : World) (v3 v4 : Value) (wr : World) : Prop :=
  ∃ (i : Nat) (T : List (List UInt8)), v4 = .int .i64 (i : Int) ∧ i ≤ s.size ∧ T.length ≤ i ∧ Hid (T ++ toks (s.data.toList.drop i) = toks s.data.toList) ∧ Hid (wr.ownsRow w.heap.size 9 1 v3 T.length (strs (T.map mkB))) ∧ Hid (Below w.heap.size w wr)
def RunRel (s : ByteArray) (i : Nat) (w0 : World) (v5 : Value) (wr : World) : Prop :=
  ∃ k : Nat, v5 = .int .i64 (k : Int) ∧ i ≤ k ∧ k ≤ s.size ∧ Hid (∀ j x, i ≤ j → j < k → s.data.toList[j]? = some x → digB x = true) ∧ Hid (w0 = wr)
def NulRel (s : ByteArray) (i k : Nat) (w0 : World) (v4 : Value) (wr : World) : Prop :=
  ∃ z : Nat, v4 = .int .i64 (z : Int) ∧ i ≤ z ∧ z ≤ k ∧ Hid (∀ j x, i ≤ j → j < z → s.data.toList[j]? = some x → x = 48) ∧ Hid (w0 = wr)
theorem ext_one {s : ByteArray} {k : Nat} (h : k < s.size) : s.extract k (k + 1) = mkB [s[k]'h] := by
  rw [ext_seg s k (k + 1) (by omega) (by omega)]
  unfold seg
  rw [drop_at (list_at h), Nat.add_sub_cancel_left]
  rfl
theorem tok_news (wr : World) (o : Obj) (X : Value) (e : TypeId) : ∀ (j : Nat) u, [X][j]? = some u → (((wr.alloc o).drew).alloc (.cells #[X] e)).cell? ((⟨wr.heap.size + 1, 0, none⟩ : Addr).add j) = some u := by
  have hb : (((wr.alloc o).drew).alloc (.cells #[X] e)).heap[wr.heap.size + 1]? = some (.cells #[X] e (0, 0)) := by
    have := heap_alloc_new ((wr.alloc o).drew) (.cells #[X] e)
    rwa [show ((wr.alloc o).drew).heap.size = wr.heap.size + 1 from by simp] at this
  exact World.news_of_block hb
theorem u8_of {n : Nat} (h : n < 256) : IntKind.u8.wrap (n : Int) = ((UInt8.ofNat n).toNat : Int) := by
  rw [UInt8.toNat_ofNat', Nat.mod_eq_of_lt h]
  exact IntWalk.u8_in _ (by omega)
theorem strs_snoc (T : List (List UInt8)) (x : ByteArray) (t : List UInt8) (h : x = mkB t) : strs ((T ++ [t]).map mkB) = strs (T.map mkB) ++ [.string x] := by
  unfold strs
  rw [List.map_append, List.map_append, h]
  rfl

set_option maxRecDepth 100000 in
set_option maxHeartbeats 8000000 in
theorem rtokens_any (s : ByteArray) (w : World) (hs : s.size ≤ 60000) :
    Calls Tryd.prog 30 #[.string s] w fun e w' => ∃ v, e = .returned v ∧ w'.ownsRow w.heap.size 9 1 v (toks s.data.toList).length (strs ((toks s.data.toList).map mkB)) ∧ Below w.heap.size w w' := by
  obtain ⟨i0, hi0, hz0, hz1, hz2⟩ := info_parts infoStr
  go_enter Tryd.func30, Tryd.ntmps30
  go_wp2
  go_loopw [3, 4] (TokRel s w) (fun _ v _ => s.size - (intOf v).toNat)
  case atStart => exact ⟨0, [], rfl, Nat.zero_le _, Nat.le_refl _, Lib.hid rfl, Lib.hid (World.ownsRow_nil _ _ _ _), Lib.hid (Below.refl _ _)⟩
  case round =>
    obtain ⟨i, T, rfl, hi, hT, HT, HO, HB⟩ := hrel
    have hsz : w.heap.size ≤ wr.heap.size := HB.out.size
    by_cases hlt : i < s.size
    · have e1 : decide ((i : Int) < (s.size : Int)) = true := decide_eq_true (by omega)
      obtain ⟨b, hb⟩ : ∃ b, s[i]'hlt = b := ⟨_, rfl⟩
      have HL := Lib.hid (show s.data.toList[i]? = some b from by rw [list_at hlt, hb])
      have HM := Lib.hid (show T.length + 1 ≤ maxLen from by unfold maxLen; omega)
      by_cases hd : digB b = true
      · have hd1 : 48 ≤ b.toNat ∧ b.toNat ≤ 57 := by
          unfold digB at hd
          simpa using hd
        have d1 : decide ((b.toNat : Int) < 48) = false := decide_eq_false (by omega)
        have d2 : decide ((57 : Int) < (b.toNat : Int)) = false := decide_eq_false (by omega)
        have HD := Lib.hid hd
        clear hd
        go_upto_region 7 with fail
        iterate 11 go_step
        go_cut [5] from 6 to 82 (fun v5 wx => ∃ k : Nat, v5 = .int .i64 (k : Int) ∧ i < k ∧ k ≤ s.size ∧ Hid (∀ j x, i ≤ j → j < k → s.data.toList[j]? = some x → digB x = true) ∧ Hid (∀ x, s.data.toList[k]? = some x → digB x = false) ∧ Hid (wr = wx))
        case first =>
          go_wp2_with fail
          go_loopw [5] (RunRel s i wr) (fun v _ => s.size - (intOf v).toNat)
          case atStart => exact ⟨i, rfl, Nat.le_refl _, by omega, Lib.hid (fun j x h1 h2 => by omega), Lib.hid rfl⟩
          case round =>
            obtain ⟨k, rfl, hik, hks, HRun, HW⟩ := hrel
            obtain rfl := HW.out
            clear HW
            have Hik := Lib.hid (show ∀ (hend : ∀ x, s.data.toList[k]? = some x → digB x = false), i < k from fun hend => by
              rcases Nat.lt_or_ge i k with q | q
              · exact q
              · have : k = i := by omega
                subst this
                have h1 := hend b HL.out
                rw [HD.out] at h1
                cases h1)
            by_cases hk : k < s.size
            · have e2 : decide ((k : Int) < (s.size : Int)) = true := decide_eq_true (by omega)
              obtain ⟨y, hy⟩ : ∃ y, s[k]'hk = y := ⟨_, rfl⟩
              have HLk := Lib.hid (show s.data.toList[k]? = some y from by rw [list_at hk, hy])
              by_cases hdk : digB y = true
              · have hd3 : 48 ≤ y.toNat ∧ y.toNat ≤ 57 := by
                  unfold digB at hdk
                  simpa using hdk
                have d3 : decide ((48 : Int) ≤ (y.toNat : Int)) = true := decide_eq_true (by omega)
                have d4 : decide ((y.toNat : Int) ≤ 57) = true := decide_eq_true (by omega)
                have HDk := Lib.hid hdk
                clear hdk
                go_wp2_with fail
                go_roundw
                case rel => exact ⟨k + 1, by simp, by omega, by omega, Lib.hid (fun j x h1 h2 hx => by
                  by_cases q : j = k
                  · subst q
                    rw [HLk.out] at hx
                    obtain rfl := Option.some.inj hx
                    exact HDk.out
                  · exact HRun.out j x h1 (by omega) hx), Lib.hid rfl⟩
                case measure => simp [intOf]; omega
              · have hd3 : y.toNat < 48 ∨ 57 < y.toNat := by
                  unfold digB at hdk
                  simp at hdk
                  omega
                have HEnd := Lib.hid (show ∀ x, s.data.toList[k]? = some x → digB x = false from fun x hx => by
                  rw [HLk.out] at hx
                  obtain rfl := Option.some.inj hx
                  simpa using hdk)
                clear hdk
                rcases hd3 with q | q
                · have d3 : decide ((48 : Int) ≤ (y.toNat : Int)) = false := decide_eq_false (by omega)
                  go_wp2_with fail
                  go_meet
                  case rel => exact ⟨k, rfl, Hik.out HEnd.out, hks, HRun, HEnd, Lib.hid rfl⟩
                · have d3 : decide ((48 : Int) ≤ (y.toNat : Int)) = true := decide_eq_true (by omega)
                  have d4 : decide ((y.toNat : Int) ≤ 57) = false := decide_eq_false (by omega)
                  go_wp2_with fail
                  go_meet
                  case rel => exact ⟨k, rfl, Hik.out HEnd.out, hks, HRun, HEnd, Lib.hid rfl⟩
            · have e2 : decide ((k : Int) < (s.size : Int)) = false := decide_eq_false (by omega)
              have HEnd := Lib.hid (show ∀ x, s.data.toList[k]? = some x → digB x = false from fun x hx => by
                have := (List.getElem?_eq_some_iff.1 hx).1
                rw [size_list] at this
                omega)
              go_wp2_with fail
              go_meet
              case rel => exact ⟨k, rfl, Hik.out HEnd.out, hks, HRun, HEnd, Lib.hid rfl⟩
        case rest =>
          obtain ⟨k, rfl, hik, hks, HRun, HEnd, HW⟩ := hcut
          obtain rfl := HW.out
          clear HW d1 d2
          iterate 2 go_step
          go_cut [4] from 6 to 82 (fun v4 wx => ∃ z : Nat, v4 = .int .i64 (z : Int) ∧ i ≤ z ∧ z ≤ k ∧ Hid (∀ j x, i ≤ j → j < z → s.data.toList[j]? = some x → x = 48) ∧ Hid (z < k → ∀ x, s.data.toList[z]? = some x → x ≠ 48) ∧ Hid (wr = wx))
          case first =>
            go_wp2_with fail
            go_loopw [4] (NulRel s i k wr) (fun v _ => k - (intOf v).toNat)
            case atStart => exact ⟨i, rfl, Nat.le_refl _, by omega, Lib.hid (fun j x h1 h2 => by omega), Lib.hid rfl⟩
            case round =>
              obtain ⟨z, rfl, hiz, hzk, HNul, HW⟩ := hrel
              obtain rfl := HW.out
              clear HW
              by_cases hz : z < k
              · have e2 : decide ((z : Int) < (k : Int)) = true := decide_eq_true (by omega)
                have hzs : z < s.size := by omega
                obtain ⟨y, hy⟩ : ∃ y, s[z]'hzs = y := ⟨_, rfl⟩
                have HLk := Lib.hid (show s.data.toList[z]? = some y from by rw [list_at hzs, hy])
                by_cases h48 : y.toNat = 48
                · have d3 : ((y.toNat : Int) == 48) = true := beq_iff_eq.2 (by omega)
                  have HY := Lib.hid (show y = 48 from UInt8.toNat_inj.1 h48)
                  go_wp2_with fail
                  go_roundw
                  case rel => exact ⟨z + 1, by simp, by omega, by omega, Lib.hid (fun j x h1 h2 hx => by
                    by_cases q : j = z
                    · subst q
                      rw [HLk.out] at hx
                      obtain rfl := Option.some.inj hx
                      exact HY.out
                    · exact HNul.out j x h1 (by omega) hx), Lib.hid rfl⟩
                  case measure => simp [intOf]; omega
                · have d3 : ((y.toNat : Int) == 48) = false := beq_eq_false_iff_ne.2 (by omega)
                  have HY := Lib.hid (show ∀ x, s.data.toList[z]? = some x → x ≠ 48 from fun x hx => by
                    rw [HLk.out] at hx
                    obtain rfl := Option.some.inj hx
                    exact fun q => h48 (by rw [q]; rfl))
                  go_wp2_with fail
                  go_meet
                  case rel => exact ⟨z, rfl, hiz, hzk, HNul, Lib.hid (fun _ => HY.out), Lib.hid rfl⟩
              · have e2 : decide ((z : Int) < (k : Int)) = false := decide_eq_false (by omega)
                go_wp2_with fail
                go_meet
                case rel => exact ⟨z, rfl, hiz, hzk, HNul, Lib.hid (fun h => absurd h hz), Lib.hid rfl⟩
          case rest =>
            obtain ⟨z, rfl, hiz, hzk, HNul, HZ, HW⟩ := hcut
            obtain rfl := HW.out
            clear HW
            have HTk := Lib.hid (tok_num HL.out HD.out hiz hzk (by rw [size_list]; exact hks) HRun.out HEnd.out HNul.out HZ.out)
            go_upto_region 12 with fail
            obtain ⟨q, hq⟩ : ∃ q, k - z = q := ⟨_, rfl⟩
            rw [hq] at HTk
            have hq1 : (k : Int) - (z : Int) = (q : Int) := by omega
            have hqs : q ≤ 60000 := by omega
            have w1 : IntKind.i64.wrap (q : Int) = (q : Int) := IntWalk.i64_in _ (by omega)
            have w2 : IntKind.i64.wrap ((q : Int).tdiv 256) = ((q / 256 : Nat) : Int) := by rw [Int.tdiv_eq_ediv_of_nonneg (by omega), IntWalk.i64_in _ (by omega)]; omega
            have w5 : IntKind.i64.wrap ((q : Int) / 256) = ((q / 256 : Nat) : Int) := by rw [IntWalk.i64_in _ (by omega)]; omega
            have w6 : IntKind.u8.wrap ((q : Int) / 256) = ((UInt8.ofNat (q / 256)).toNat : Int) := by rw [show (q : Int) / 256 = ((q / 256 : Nat) : Int) from by omega]; exact u8_of (by omega)
            have w3 : IntKind.u8.wrap ((q / 256 : Nat) : Int) = ((UInt8.ofNat (q / 256)).toNat : Int) := u8_of (by omega)
            have w4 : IntKind.u8.wrap ((q : Int).tmod 256) = ((UInt8.ofNat (q % 256)).toNat : Int) := by rw [Int.tmod_eq_emod_of_nonneg (by omega), show (q : Int) % 256 = ((q % 256 : Nat) : Int) from by omega]; exact u8_of (by omega)
            clear hq
            generalize UInt8.ofNat (q / 256) = c1 at w3 w6 HTk
            generalize UInt8.ofNat (q % 256) = c2 at w4 HTk
            have hconv : (convert 52 9 (.slice (some ⟨wr.heap.size, 0, none⟩) 2 2)).run Tryd.prog ((wr.alloc (.cells #[.int .u8 (c1.toNat : Int), .int .u8 (c2.toNat : Int)] 5)).drew) = .ok (.string ⟨#[c1, c2]⟩) ((wr.alloc (.cells #[.int .u8 (c1.toNat : Int), .int .u8 (c2.toNat : Int)] 5)).drew) := by
              refine run_convert_bytes_back _ 52 9 5 ⟨wr.heap.size, 0, none⟩ 2 [c1, c2] Tryd.underlying52 Tryd.underlying5 Tryd.underlying9 (fun j hj => ?_)
              have hcell : ∀ j : Nat, ((wr.alloc (.cells #[.int .u8 (c1.toNat : Int), .int .u8 (c2.toNat : Int)] 5)).drew).cell? ⟨wr.heap.size, j, none⟩ = #[Value.int .u8 (c1.toNat : Int), .int .u8 (c2.toNat : Int)][j]? := fun j => cell_of_row _ _ _ _ _ _ (heap_alloc_new wr _)
              have hadd : (⟨wr.heap.size, 0, none⟩ : Addr).add j = ⟨wr.heap.size, j, none⟩ := by unfold Addr.add; split <;> simp_all
              rw [hadd, hcell]
              match j, hj with
              | 0, _ => rfl
              | 1, _ => rfl
            have s1 : (⟨#[33]⟩ : ByteArray).size = 1 := rfl
            have s2 : (⟨#[c1, c2]⟩ : ByteArray).size = 2 := rfl
            have s3 : ((⟨#[33]⟩ : ByteArray) ++ ⟨#[c1, c2]⟩).size = 3 := by rw [ByteArray.size_append, s1, s2]
            have s4 : (s.extract z k).size ≤ 60000 := by
              rw [ext_seg s z k hzk hks, ← size_list, mkB_list, seg_len hzk (by rw [size_list]; exact hks)]
              omega
            have s5 : ¬ 9223372036854775807 < 3 + (k - z) := by omega
            have HX := Lib.hid (show (⟨#[33]⟩ : ByteArray) ++ ⟨#[c1, c2]⟩ ++ s.extract z k = mkB (33 :: c1 :: c2 :: seg s.data.toList z k) from by
              rw [ext_seg s z k hzk hks]
              apply ByteArray.ext
              rw [ByteArray.data_append, ByteArray.data_append]
              unfold mkB
              apply Array.ext'
              simp)
            have HN := Lib.hid (show T ++ [33 :: c1 :: c2 :: seg s.data.toList z k] ++ toks (s.data.toList.drop k) = toks s.data.toList from by
              rw [← HT.out, HTk.out, List.append_assoc]
              rfl)
            have HOw := Lib.hid (fun W (hb : Below wr.heap.size wr W) => owns_to HO.out hb)
            have HBa := Lib.hid (show Below wr.heap.size wr ((wr.alloc (.cells #[.int .u8 (c1.toNat : Int), .int .u8 (c2.toNat : Int)] 5)).drew) from ((Below.refl _ _).alloc (Nat.le_refl _) _).drew)
            have HBb := Lib.hid (show ∀ o, Below wr.heap.size wr (((wr.alloc (.cells #[.int .u8 (c1.toNat : Int), .int .u8 (c2.toNat : Int)] 5)).drew).alloc o) from fun o => HBa.out.alloc HBa.out.size _)
            go_region_law (refine step_append_lies _ rfl (.tmp 61) (.tmp 80) 46 rfl w.heap.size 9 i0 _ 1 16 Tryd.underlying46 hi0 hz0 hz1 hz2 rfl (by decide) u3 T.length (strs (T.map mkB)) (by simp [Act.eval]) (HOw.out _ (HBb.out _)) ⟨wr.heap.size + 1, 0, none⟩ 1 1 [.string ((⟨#[33]⟩ : ByteArray) ++ ⟨#[c1, c2]⟩ ++ s.extract z k)] (by simp [Act.eval]) rfl (tok_news _ _ _ _) (by intro u hu; simp at hu; subst hu; rfl) (by decide) HM.out (by omega) (by simp; omega) _ rfl ?_; intro g cap1 w1 hown1 hgrow hat hlt1; have HO1 := Lib.hid hown1; have HG1 := Lib.hid hgrow; clear hown1 hgrow hat hlt1)
            all_goals
              have HO2 := Lib.hid (show w1.ownsRow w.heap.size 9 1 (.slice (some ⟨g, 0, none⟩) (T.length + 1) cap1) (T ++ [33 :: c1 :: c2 :: seg s.data.toList z k]).length (strs ((T ++ [33 :: c1 :: c2 :: seg s.data.toList z k]).map mkB)) from by
                rw [strs_snoc T _ _ HX.out, List.length_append]
                exact HO1.out)
              have HB2 := Lib.hid (show Below w.heap.size w w1 from (((HB.out.alloc hsz _).alloc (by simp; omega) _).drew).grown HG1.out (by simp; omega) (fun j hj => (HO.out.lt j hj).1))
              clear HO1 HG1 hconv
              go_wp2
              go_roundw
              case rel => exact ⟨k, T ++ [33 :: c1 :: c2 :: seg s.data.toList z k], rfl, hks, by simp; omega, HN, HO2, HB2⟩
              case measure => simp [intOf]; omega
      · have hd1 : b.toNat < 48 ∨ 57 < b.toNat := by
          unfold digB at hd
          simp at hd
          omega
        have HN := Lib.hid (show T ++ [[126, b]] ++ toks (s.data.toList.drop (i + 1)) = toks s.data.toList from by
          rw [← HT.out, tok_byte HL.out (by simpa using hd), List.append_assoc]
          rfl)
        have HX := Lib.hid (show (⟨#[126]⟩ : ByteArray) ++ s.extract i (i + 1) = mkB [126, b] from by
          rw [ext_one hlt, hb]
          rfl)
        have hx1 : (s.extract i (i + 1)).size ≤ 10 := by rw [ext_one hlt]; show 1 ≤ 10; decide
        have hone : (⟨#[126]⟩ : ByteArray).size = 1 := rfl
        clear hd
        rcases hd1 with q | q
        · have d1 : decide ((b.toNat : Int) < 48) = true := decide_eq_true (by omega)
          go_upto_region 5 with fail
          go_wp2_with (at_builtin; go_loud (refine wpList_append_own _ rfl (.tmp 20) (.tmp 27) 46 rfl w.heap.size 9 i0 (.string ⟨#[]⟩) 1 16 Tryd.underlying46 hi0 hz0 hz1 hz2 rfl (by decide) _ _ _ rfl (HO.out.alloc _) ⟨wr.heap.size, 0, none⟩ 1 1 [.string (⟨#[126]⟩ ++ s.extract i (i + 1))] rfl rfl (World.news_of_block (heap_alloc_new _ _)) (by intro u hu; simp at hu; subst hu; rfl) HM.out (by omega) (by simp; omega) ?_; intro v1 w1 hown1 hgrow hnil))
          have HO1 := Lib.hid (show w1.ownsRow w.heap.size 9 1 v1 (T ++ [[126, b]]).length (strs ((T ++ [[126, b]]).map mkB)) from by
            rw [strs_snoc T _ _ HX.out, List.length_append]
            exact hown1)
          have HB1 := Lib.hid ((HB.out.alloc hsz _).grown hgrow (by simp; omega) (fun j hj => (HO.out.lt j hj).1))
          clear hown1 hgrow hnil
          go_roundw
          case rel => exact ⟨i + 1, T ++ [[126, b]], by simp, by omega, by simp; omega, HN, HO1, HB1⟩
          case measure => simp [intOf]; omega
        · have d1 : decide ((b.toNat : Int) < 48) = false := decide_eq_false (by omega)
          have d2 : decide ((57 : Int) < (b.toNat : Int)) = true := decide_eq_true (by omega)
          go_upto_region 5 with fail
          go_wp2_with (at_builtin; go_loud (refine wpList_append_own _ rfl (.tmp 20) (.tmp 27) 46 rfl w.heap.size 9 i0 (.string ⟨#[]⟩) 1 16 Tryd.underlying46 hi0 hz0 hz1 hz2 rfl (by decide) _ _ _ rfl (HO.out.alloc _) ⟨wr.heap.size, 0, none⟩ 1 1 [.string (⟨#[126]⟩ ++ s.extract i (i + 1))] rfl rfl (World.news_of_block (heap_alloc_new _ _)) (by intro u hu; simp at hu; subst hu; rfl) HM.out (by omega) (by simp; omega) ?_; intro v1 w1 hown1 hgrow hnil))
          have HO1 := Lib.hid (show w1.ownsRow w.heap.size 9 1 v1 (T ++ [[126, b]]).length (strs ((T ++ [[126, b]]).map mkB)) from by
            rw [strs_snoc T _ _ HX.out, List.length_append]
            exact hown1)
          have HB1 := Lib.hid ((HB.out.alloc hsz _).grown hgrow (by simp; omega) (fun j hj => (HO.out.lt j hj).1))
          clear hown1 hgrow hnil
          go_roundw
          case rel => exact ⟨i + 1, T ++ [[126, b]], by simp, by omega, by simp; omega, HN, HO1, HB1⟩
          case measure => simp [intOf]; omega
    · have e1 : decide ((i : Int) < (s.size : Int)) = false := decide_eq_false (by omega)
      have HE := Lib.hid (show T = toks s.data.toList from by
        have := HT.out
        rw [List.drop_of_length_le (by rw [size_list]; omega), toks_nil, List.append_nil] at this
        exact this)
      go_wp2_with fail
      go_ret
      rw [HE.out] at HO
      exact ⟨_, rfl, HO.out, HB.out⟩
end Go.Proofs.YteeddednonmglaaDoor
