/-
  What the reference's Tokens returns.
  Conditions: each fact's own.
-/
import Derived.Test.YtfhagjnlliafiaaGreatDoorKOPlM
import Derived.Deep.AppendLies
import Derived.Deep.RegionLaw
set_option linter.unusedVariables false
set_option maxHeartbeats 8000000
set_option maxRecDepth 100000
namespace Go.Proofs.YtfhagjnlliafiaaGreatDoor.O
open Go.Proofs.YtfhagjnlliafiaaGreatDoor.B
open Go.RowKit
theorem infoStr : (Tryz.prog.info? 9).map (fun i => (i.zero, i.size, i.bytes)) = some (some (.string ⟨#[]⟩), 1, 16) := by kernel_rfl
def TokRel (s : ByteArray) (w : World) (v3 v4 : Value) (wr : World) : Prop :=
  ∃ (i : Nat) (T : List (List UInt8)), v4 = .int .i64 (i : Int) ∧ i ≤ s.size ∧ T.length ≤ i ∧ Hid (T ++ toks (s.data.toList.drop i) = toks s.data.toList) ∧ Hid (wr.ownsRow w.heap.size 9 1 v3 T.length (strs (T.map mkB))) ∧ Hid (Below w.heap.size w wr)
def RunRel (s : ByteArray) (i : Nat) (w0 : World) (v5 : Value) (wr : World) : Prop :=
  ∃ k : Nat, v5 = .int .i64 (k : Int) ∧ i ≤ k ∧ k ≤ s.size ∧ Hid (∀ j x, i ≤ j → j < k → s.data.toList[j]? = some x → digB x = true) ∧ Hid (w0 = wr)
def NulRel (s : ByteArray) (i k : Nat) (w0 : World) (v4 : Value) (wr : World) : Prop :=
  ∃ z : Nat, v4 = .int .i64 (z : Int) ∧ i ≤ z ∧ z ≤ k ∧ Hid (∀ j x, i ≤ j → j < z → s.data.toList[j]? = some x → x = 48) ∧ Hid (w0 = wr)
theorem ext_one {s : ByteArray} {k : Nat} (h : k < s.size) : s.extract k (k + 1) = mkB [s[k]'h] := by
  rw [ext_seg s k (k + 1) (by omega) (by omega)]
  unfold seg
  rw [drop_at (list_at h), Nat.add_sub_cancel_left]
  rfl
theorem tok_news (wr : World) (o : Obj) (X : Value) (e : TypeId) : ∀ (j : Nat) u, [X][j]? = some u → (((wr.alloc o).drew).alloc (.cells #[X] e)).cell? ((⟨wr.heap.size + 1, 0, none⟩ : Addr).add j) = some u := by
  have hb : (((wr.alloc o).drew).alloc (.cells #[X] e)).heap[wr.heap.size + 1]? = some (.cells #[X] e (0, 0)) := by
    have := heap_alloc_new ((wr.alloc o).drew) (.cells #[X] e)
    rwa [show ((wr.alloc o).drew).heap.size = wr.heap.size + 1 from by simp] at this
  exact World.news_of_block hb
theorem u8_of {n : Nat} (h : n < 256) : IntKind.u8.wrap (n : Int) = ((UInt8.ofNat n).toNat : Int) := by
  rw [UInt8.toNat_ofNat', Nat.mod_eq_of_lt h]
  exact IntWalk.u8_in _ (by omega)
theorem strs_snoc (T : List (List UInt8)) (x : ByteArray) (t : List UInt8) (h : x = mkB t) : strs ((T ++ [t]).map mkB) = strs (T.map mkB) ++ [.string x] := by
  unfold strs
  rw [List.map_append, List.map_append, h]
  rfl
theorem rtokens_any (s : ByteArray) (w : World) (hs : s.size ≤ 60000) :
    Calls Tryz.prog 127 #[.string s] w fun e w' => ∃ v, e = .returned v ∧ w'.ownsRow w.heap.size 9 1 v (toks s.data.toList).length (strs ((toks s.data.toList).map mkB)) ∧ Below w.heap.size w w' := by
  obtain ⟨i0, hi0, hz0, hz1, hz2⟩ := info_parts infoStr
  go_enter Tryz.func127, Tryz.ntmps127
  go_wp2
  go_loopw [3, 4] (TokRel s w) (fun _ v _ => s.size - (intOf v).toNat)
  case atStart => exact ⟨0, [], rfl, Nat.zero_le _, Nat.le_refl _, Lib.hid rfl, Lib.hid (World.ownsRow_nil _ _ _ _), Lib.hid (Below.refl _ _)⟩
  case round =>
    obtain ⟨i, T, rfl, hi, hT, HT, HO, HB⟩ := hrel
    have hsz : w.heap.size ≤ wr.heap.size := HB.out.size
    by_cases hlt : i < s.size
    · have e1 : decide ((i : Int) < (s.size : Int)) = true := decide_eq_true (by omega)
      obtain ⟨b, hb⟩ : ∃ b, s[i]'hlt = b := ⟨_, rfl⟩
      have HL := Lib.hid (show s.data.toList[i]? = some b from by rw [list_at hlt, hb])
      have HM := Lib.hid (show T.length + 1 ≤ maxLen from by unfold maxLen; omega)
      by_cases hd : digB b = true
      · have hd1 : 48 ≤ b.toNat ∧ b.toNat ≤ 57 := by
          unfold digB at hd
          simpa using hd
        have d1 : decide ((b.toNat : Int) < 48) = false := decide_eq_false (by omega)
        have d2 : decide ((57 : Int) < (b.toNat : Int)) = false := decide_eq_false (by omega)
        have HD := Lib.hid hd
        clear hd
        go_upto_region 7 with fail
        iterate 11 go_step
        go_cut [5] from 6 to 82 (fun v5 wx => ∃ k : Nat, v5 = .int .i64 (k : Int) ∧ i < k ∧ k ≤ s.size ∧ Hid (∀ j x, i ≤ j → j < k → s.data.toList[j]? = some x → digB x = true) ∧ Hid (∀ x, s.data.toList[k]? = some x → digB x = false) ∧ Hid (wr = wx))
        case first =>
          go_wp2_with fail
          go_loopw [5] (RunRel s i wr) (fun v _ => s.size - (intOf v).toNat)
          case atStart => exact ⟨i, rfl, Nat.le_refl _, by omega, Lib.hid (fun j x h1 h2 => by omega), Lib.hid rfl⟩
          case round =>
            obtain ⟨k, rfl, hik, hks, HRun, HW⟩ := hrel
            obtain rfl := HW.out
            clear HW
            have Hik := Lib.hid (show ∀ (hend : ∀ x, s.data.toList[k]? = some x → digB x = false), i < k from fun hend => by
              rcases Nat.lt_or_ge i k with q | q
              · exact q
              · have : k = i := by omega
                subst this
                have h1 := hend b HL.out
                rw [HD.out] at h1
                cases h1)
            by_cases hk : k < s.size
            · have e2 : decide ((k : Int) < (s.size : Int)) = true := decide_eq_true (by omega)
              obtain ⟨y, hy⟩ : ∃ y, s[k]'hk = y := ⟨_, rfl⟩
              have HLk := Lib.hid (show s.data.toList[k]? = some y from by rw [list_at hk, hy])
              by_cases hdk : digB y = true
              · have hd3 : 48 ≤ y.toNat ∧ y.toNat ≤ 57 := by
                  unfold digB at hdk
                  simpa using hdk
                have d3 : decide ((48 : Int) ≤ (y.toNat : Int)) = true := decide_eq_true (by omega)
                have d4 : decide ((y.toNat : Int) ≤ 57) = true := decide_eq_true (by omega)
                have HDk := Lib.hid hdk
                clear hdk
                go_wp2_with fail
                go_roundw
                case rel => exact ⟨k + 1, by simp, by omega, by omega, Lib.hid (fun j x h1 h2 hx => by
                  by_cases q : j = k
                  · subst q
                    rw [HLk.out] at hx
                    obtain rfl := Option.some.inj hx
                    exact HDk.out
                  · exact HRun.out j x h1 (by omega) hx), Lib.hid rfl⟩
                case measure => simp [intOf]; omega
              · have hd3 : y.toNat < 48 ∨ 57 < y.toNat := by
                  unfold digB at hdk
                  simp at hdk
                  omega
                have HEnd := Lib.hid (show ∀ x, s.data.toList[k]? = some x → digB x = false from fun x hx => by
                  rw [HLk.out] at hx
                  obtain rfl := Option.some.inj hx
                  simpa using hdk)
                clear hdk
                rcases hd3 with q | q
                · have d3 : decide ((48 : Int) ≤ (y.toNat : Int)) = false := decide_eq_false (by omega)
                  go_wp2_with fail
                  go_meet
                  case rel => exact ⟨k, rfl, Hik.out HEnd.out, hks, HRun, HEnd, Lib.hid rfl⟩
                · have d3 : decide ((48 : Int) ≤ (y.toNat : Int)) = true := decide_eq_true (by omega)
                  have d4 : decide ((y.toNat : Int) ≤ 57) = false := decide_eq_false (by omega)
                  go_wp2_with fail
                  go_meet
                  case rel => exact ⟨k, rfl, Hik.out HEnd.out, hks, HRun, HEnd, Lib.hid rfl⟩
            · have e2 : decide ((k : Int) < (s.size : Int)) = false := decide_eq_false (by omega)
              have HEnd := Lib.hid (show ∀ x, s.data.toList[k]? = some x → digB x = false from fun x hx => by
                have := (List.getElem?_eq_some_iff.1 hx).1
                rw [size_list] at this
                omega)
              go_wp2_with fail
              go_meet
              case rel => exact ⟨k, rfl, Hik.out HEnd.out, hks, HRun, HEnd, Lib.hid rfl⟩
        case rest =>
          obtain ⟨k, rfl, hik, hks, HRun, HEnd, HW⟩ := hcut
          obtain rfl := HW.out
          clear HW d1 d2
          iterate 2 go_step
          go_cut [4] from 6 to 82 (fun v4 wx => ∃ z : Nat, v4 = .int .i64 (z : Int) ∧ i ≤ z ∧ z ≤ k ∧ Hid (∀ j x, i ≤ j → j < z → s.data.toList[j]? = some x → x = 48) ∧ Hid (z < k → ∀ x, s.data.toList[z]? = some x → x ≠ 48) ∧ Hid (wr = wx))
          case first =>
            go_wp2_with fail
            go_loopw [4] (NulRel s i k wr) (fun v _ => k - (intOf v).toNat)
            case atStart => exact ⟨i, rfl, Nat.le_refl _, by omega, Lib.hid (fun j x h1 h2 => by omega), Lib.hid rfl⟩
            case round =>
              obtain ⟨z, rfl, hiz, hzk, HNul, HW⟩ := hrel
              obtain rfl := HW.out
              clear HW
              by_cases hz : z < k
              · have e2 : decide ((z : Int) < (k : Int)) = true := decide_eq_true (by omega)
                have hzs : z < s.size := by omega
                obtain ⟨y, hy⟩ : ∃ y, s[z]'hzs = y := ⟨_, rfl⟩
                have HLk := Lib.hid (show s.data.toList[z]? = some y from by rw [list_at hzs, hy])
                by_cases h48 : y.toNat = 48
                · have d3 : ((y.toNat : Int) == 48) = true := beq_iff_eq.2 (by omega)
                  have HY := Lib.hid (show y = 48 from UInt8.toNat_inj.1 h48)
                  go_wp2_with fail
                  go_roundw
                  case rel => exact ⟨z + 1, by simp, by omega, by omega, Lib.hid (fun j x h1 h2 hx => by
                    by_cases q : j = z
                    · subst q
                      rw [HLk.out] at hx
                      obtain rfl := Option.some.inj hx
                      exact HY.out
                    · exact HNul.out j x h1 (by omega) hx), Lib.hid rfl⟩
                  case measure => simp [intOf]; omega
                · have d3 : ((y.toNat : Int) == 48) = false := beq_eq_false_iff_ne.2 (by omega)
                  have HY := Lib.hid (show ∀ x, s.data.toList[z]? = some x → x ≠ 48 from fun x hx => by
                    rw [HLk.out] at hx
                    obtain rfl := Option.some.inj hx
                    exact fun q => h48 (by rw [q]; rfl))
                  go_wp2_with fail
                  go_meet
                  case rel => exact ⟨z, rfl, hiz, hzk, HNul, Lib.hid (fun _ => HY.out), Lib.hid rfl⟩
              · have e2 : decide ((z : Int) < (k : Int)) = false := decide_eq_false (by omega)
                go_wp2_with fail
                go_meet
                case rel => exact ⟨z, rfl, hiz, hzk, HNul, Lib.hid (fun h => absurd h hz), Lib.hid rfl⟩
          case rest =>
            obtain ⟨z, rfl, hiz, hzk, HNul, HZ, HW⟩ := hcut
            obtain rfl := HW.out
            clear HW
            have HTk := Lib.hid (tok_num HL.out HD.out hiz hzk (by rw [size_list]; exact hks) HRun.out HEnd.out HNul.out HZ.out)
            go_upto_region 12 with fail
            obtain ⟨q, hq⟩ : ∃ q, k - z = q := ⟨_, rfl⟩
            rw [hq] at HTk
            have hq1 : (k : Int) - (z : Int) = (q : Int) := by omega
            have hqs : q ≤ 60000 := by omega
            have w1 : IntKind.i64.wrap (q : Int) = (q : Int) := IntWalk.i64_in _ (by omega)
            have w2 : IntKind.i64.wrap ((q : Int).tdiv 256) = ((q / 256 : Nat) : Int) := by rw [Int.tdiv_eq_ediv_of_nonneg (by omega), IntWalk.i64_in _ (by omega)]; omega
            have w5 : IntKind.i64.wrap ((q : Int) / 256) = ((q / 256 : Nat) : Int) := by rw [IntWalk.i64_in _ (by omega)]; omega
            have w6 : IntKind.u8.wrap ((q : Int) / 256) = ((UInt8.ofNat (q / 256)).toNat : Int) := by rw [show (q : Int) / 256 = ((q / 256 : Nat) : Int) from by omega]; exact u8_of (by omega)
            have w3 : IntKind.u8.wrap ((q / 256 : Nat) : Int) = ((UInt8.ofNat (q / 256)).toNat : Int) := u8_of (by omega)
            have w4 : IntKind.u8.wrap ((q : Int).tmod 256) = ((UInt8.ofNat (q % 256)).toNat : Int) := by rw [Int.tmod_eq_emod_of_nonneg (by omega), show (q : Int) % 256 = ((q % 256 : Nat) : Int) from by omega]; exact u8_of (by omega)
            clear hq
            generalize UInt8.ofNat (q / 256) = c1 at w3 w6 HTk
            generalize UInt8.ofNat (q % 256) = c2 at w4 HTk
            have hconv : (convert 110 9 (.slice (some ⟨wr.heap.size, 0, none⟩) 2 2)).run Tryz.prog ((wr.alloc (.cells #[.int .u8 (c1.toNat : Int), .int .u8 (c2.toNat : Int)] 5)).drew) = .ok (.string ⟨#[c1, c2]⟩) ((wr.alloc (.cells #[.int .u8 (c1.toNat : Int), .int .u8 (c2.toNat : Int)] 5)).drew) := by
              refine run_convert_bytes_back _ 110 9 5 ⟨wr.heap.size, 0, none⟩ 2 [c1, c2] Tryz.underlying110 Tryz.underlying5 Tryz.underlying9 (fun j hj => ?_)
              have hcell : ∀ j : Nat, ((wr.alloc (.cells #[.int .u8 (c1.toNat : Int), .int .u8 (c2.toNat : Int)] 5)).drew).cell? ⟨wr.heap.size, j, none⟩ = #[Value.int .u8 (c1.toNat : Int), .int .u8 (c2.toNat : Int)][j]? := fun j => cell_of_row _ _ _ _ _ _ (heap_alloc_new wr _)
              have hadd : (⟨wr.heap.size, 0, none⟩ : Addr).add j = ⟨wr.heap.size, j, none⟩ := by unfold Addr.add; split <;> simp_all
              rw [hadd, hcell]
              match j, hj with
              | 0, _ => rfl
              | 1, _ => rfl
            have s1 : (⟨#[33]⟩ : ByteArray).size = 1 := rfl
            have s2 : (⟨#[c1, c2]⟩ : ByteArray).size = 2 := rfl
            have s3 : ((⟨#[33]⟩ : ByteArray) ++ ⟨#[c1, c2]⟩).size = 3 := by rw [ByteArray.size_append, s1, s2]
            have s4 : (s.extract z k).size ≤ 60000 := by
              rw [ext_seg s z k hzk hks, ← size_list, mkB_list, seg_len hzk (by rw [size_list]; exact hks)]
              omega
            have s5 : ¬ 9223372036854775807 < 3 + (k - z) := by omega
            have HX := Lib.hid (show (⟨#[33]⟩ : ByteArray) ++ ⟨#[c1, c2]⟩ ++ s.extract z k = mkB (33 :: c1 :: c2 :: seg s.data.toList z k) from by
              rw [ext_seg s z k hzk hks]
              apply ByteArray.ext
              rw [ByteArray.data_append, ByteArray.data_append]
              unfold mkB
              apply Array.ext'
              simp)
            have HN := Lib.hid (show T ++ [33 :: c1 :: c2 :: seg s.data.toList z k] ++ toks (s.data.toList.drop k) = toks s.data.toList from by
              rw [← HT.out, HTk.out, List.append_assoc]
              rfl)
            have HOw := Lib.hid (fun W (hb : Below wr.heap.size wr W) => owns_to HO.out hb)
            have HBa := Lib.hid (show Below wr.heap.size wr ((wr.alloc (.cells #[.int .u8 (c1.toNat : Int), .int .u8 (c2.toNat : Int)] 5)).drew) from ((Below.refl _ _).alloc (Nat.le_refl _) _).drew)
            have HBb := Lib.hid (show ∀ o, Below wr.heap.size wr (((wr.alloc (.cells #[.int .u8 (c1.toNat : Int), .int .u8 (c2.toNat : Int)] 5)).drew).alloc o) from fun o => HBa.out.alloc HBa.out.size _)
            go_region_law (refine step_append_lies _ rfl (.tmp 61) (.tmp 80) 47 rfl w.heap.size 9 i0 _ 1 16 Tryz.underlying47 hi0 hz0 hz1 hz2 rfl (by decide) u3 T.length (strs (T.map mkB)) (by simp [Act.eval]) (HOw.out _ (HBb.out _)) ⟨wr.heap.size + 1, 0, none⟩ 1 1 [.string ((⟨#[33]⟩ : ByteArray) ++ ⟨#[c1, c2]⟩ ++ s.extract z k)] (by simp [Act.eval]) rfl (tok_news _ _ _ _) (by intro u hu; simp at hu; subst hu; rfl) (by decide) HM.out (by omega) (by simp; omega) _ rfl ?_; intro g cap1 w1 hown1 hgrow hat hlt1; have HO1 := Lib.hid hown1; have HG1 := Lib.hid hgrow; clear hown1 hgrow hat hlt1)
            all_goals
              have HO2 := Lib.hid (show w1.ownsRow w.heap.size 9 1 (.slice (some ⟨g, 0, none⟩) (T.length + 1) cap1) (T ++ [33 :: c1 :: c2 :: seg s.data.toList z k]).length (strs ((T ++ [33 :: c1 :: c2 :: seg s.data.toList z k]).map mkB)) from by
                rw [strs_snoc T _ _ HX.out, List.length_append]
                exact HO1.out)
              have HB2 := Lib.hid (show Below w.heap.size w w1 from (((HB.out.alloc hsz _).alloc (by simp; omega) _).drew).grown HG1.out (by simp; omega) (fun j hj => (HO.out.lt j hj).1))
              clear HO1 HG1 hconv
              go_wp2
              go_roundw
              case rel => exact ⟨k, T ++ [33 :: c1 :: c2 :: seg s.data.toList z k], rfl, hks, by simp; omega, HN, HO2, HB2⟩
              case measure => simp [intOf]; omega
      · have hd1 : b.toNat < 48 ∨ 57 < b.toNat := by
          unfold digB at hd
          simp at hd
          omega
        have HN := Lib.hid (show T ++ [[126, b]] ++ toks (s.data.toList.drop (i + 1)) = toks s.data.toList from by
          rw [← HT.out, tok_byte HL.out (by simpa using hd), List.append_assoc]
          rfl)
        have HX := Lib.hid (show (⟨#[126]⟩ : ByteArray) ++ s.extract i (i + 1) = mkB [126, b] from by
          rw [ext_one hlt, hb]
          rfl)
        have hx1 : (s.extract i (i + 1)).size ≤ 10 := by rw [ext_one hlt]; show 1 ≤ 10; decide
        have hone : (⟨#[126]⟩ : ByteArray).size = 1 := rfl
        clear hd
        rcases hd1 with q | q
        · have d1 : decide ((b.toNat : Int) < 48) = true := decide_eq_true (by omega)
          go_upto_region 5 with fail
          go_wp2_with (at_builtin; go_loud (refine wpList_append_own _ rfl (.tmp 20) (.tmp 27) 47 rfl w.heap.size 9 i0 (.string ⟨#[]⟩) 1 16 Tryz.underlying47 hi0 hz0 hz1 hz2 rfl (by decide) _ _ _ rfl (HO.out.alloc _) ⟨wr.heap.size, 0, none⟩ 1 1 [.string (⟨#[126]⟩ ++ s.extract i (i + 1))] rfl rfl (World.news_of_block (heap_alloc_new _ _)) (by intro u hu; simp at hu; subst hu; rfl) HM.out (by omega) (by simp; omega) ?_; intro v1 w1 hown1 hgrow hnil))
          have HO1 := Lib.hid (show w1.ownsRow w.heap.size 9 1 v1 (T ++ [[126, b]]).length (strs ((T ++ [[126, b]]).map mkB)) from by
            rw [strs_snoc T _ _ HX.out, List.length_append]
            exact hown1)
          have HB1 := Lib.hid ((HB.out.alloc hsz _).grown hgrow (by simp; omega) (fun j hj => (HO.out.lt j hj).1))
          clear hown1 hgrow hnil
          go_roundw
          case rel => exact ⟨i + 1, T ++ [[126, b]], by simp, by omega, by simp; omega, HN, HO1, HB1⟩
          case measure => simp [intOf]; omega
        · have d1 : decide ((b.toNat : Int) < 48) = false := decide_eq_false (by omega)
          have d2 : decide ((57 : Int) < (b.toNat : Int)) = true := decide_eq_true (by omega)
          go_upto_region 5 with fail
          go_wp2_with (at_builtin; go_loud (refine wpList_append_own _ rfl (.tmp 20) (.tmp 27) 47 rfl w.heap.size 9 i0 (.string ⟨#[]⟩) 1 16 Tryz.underlying47 hi0 hz0 hz1 hz2 rfl (by decide) _ _ _ rfl (HO.out.alloc _) ⟨wr.heap.size, 0, none⟩ 1 1 [.string (⟨#[126]⟩ ++ s.extract i (i + 1))] rfl rfl (World.news_of_block (heap_alloc_new _ _)) (by intro u hu; simp at hu; subst hu; rfl) HM.out (by omega) (by simp; omega) ?_; intro v1 w1 hown1 hgrow hnil))
          have HO1 := Lib.hid (show w1.ownsRow w.heap.size 9 1 v1 (T ++ [[126, b]]).length (strs ((T ++ [[126, b]]).map mkB)) from by
            rw [strs_snoc T _ _ HX.out, List.length_append]
            exact hown1)
          have HB1 := Lib.hid ((HB.out.alloc hsz _).grown hgrow (by simp; omega) (fun j hj => (HO.out.lt j hj).1))
          clear hown1 hgrow hnil
          go_roundw
          case rel => exact ⟨i + 1, T ++ [[126, b]], by simp, by omega, by simp; omega, HN, HO1, HB1⟩
          case measure => simp [intOf]; omega
    · have e1 : decide ((i : Int) < (s.size : Int)) = false := decide_eq_false (by omega)
      have HE := Lib.hid (show T = toks s.data.toList from by
        have := HT.out
        rw [List.drop_of_length_le (by rw [size_list]; omega), toks_nil, List.append_nil] at this
        exact this)
      go_wp2_with fail
      go_ret
      rw [HE.out] at HO
      exact ⟨_, rfl, HO.out, HB.out⟩
end Go.Proofs.YtfhagjnlliafiaaGreatDoor.O
namespace Go.Proofs.YtfhagjnlliafiaaGreatDoor.O
open Go.Proofs.YtfhagjnlliafiaaGreatDoor.B
open Go.RowKit
def VerRel (X Y : List (List UInt8)) (w w0 : World) (v : Value) (wr : World) : Prop :=
  ∃ k : Nat, k ≤ X.length ∧ k ≤ Y.length ∧ v = .int .i64 (k : Int) ∧ Hid (lexC lessL X Y = lexC lessL (X.drop k) (Y.drop k)) ∧ Hid (Below w.heap.size w wr) ∧ Hid (Below w0.heap.size w0 wr)
theorem strs_at {T : List (List UInt8)} {k : Nat} {t : List UInt8} (h : T[k]? = some t) : (strs (T.map mkB))[k]? = some (.string (mkB t)) := by
  unfold strs
  rw [List.getElem?_map, List.getElem?_map, h]
  rfl
theorem rversion_any (a b : ByteArray) (w : World) (ha : a.size ≤ 60000) (hb : b.size ≤ 60000) :
    Calls Tryz.prog 102 #[.string a, .string b] w fun e w' => e = .returned (.int .i64 (verL a.data.toList b.data.toList)) ∧ Below w.heap.size w w' := by
  have HTa := Lib.hid (rtokens_any a w ha)
  have HTb := Lib.hid (fun W => rtokens_any b W hb)
  obtain ⟨xl, xs⟩ := toks_len a.data.toList
  obtain ⟨yl, ys⟩ := toks_len b.data.toList
  rw [size_list] at xl xs
  rw [size_list] at yl ys
  unfold verL
  generalize toks a.data.toList = X at HTa xl xs ⊢
  generalize toks b.data.toList = Y at HTb yl ys ⊢
  have HXs := Lib.hid xs
  have HYs := Lib.hid ys
  clear xs ys
  go_enter Tryz.func102, Tryz.ntmps102
  go_upto_region 1 with fail
  iterate 6 go_step
  go_at_call 127
  refine HTa.out.mono ?_
  rintro e w2 ⟨vx, rfl, ho2, hb2⟩
  obtain ⟨ox, cx, rfl⟩ := owns_form ho2
  have HO2 := Lib.hid ho2
  have HB2 := Lib.hid hb2
  clear ho2 hb2
  go_upto_region 2 with (go_at_call 127; refine (HTb.out _).mono ?_; rintro e w3 ⟨vy, rfl, ho3, hb3⟩; obtain ⟨oy, cy, rfl⟩ := owns_form ho3; have HO3 := Lib.hid ho3; have HB3 := Lib.hid hb3; clear ho3 hb3)
  have HX3 := Lib.hid (owns_to HO2.out HB3.out)
  have HBw := Lib.hid (below_two HB2.out HB3.out)
  clear HTa HTb HO2 HB2
  go_wp2_with fail
  go_loopw [7] (VerRel X Y w w3) (fun v _ => X.length - (intOf v).toNat)
  case atStart => exact ⟨0, Nat.zero_le _, Nat.zero_le _, rfl, Lib.hid rfl, HBw, Lib.hid (Below.refl _ _)⟩
  case round =>
    obtain ⟨k, ka, kb, rfl, HL, HB, HB4⟩ := hrel
    by_cases h1 : k < X.length
    · have e1 : decide ((k : Int) < (X.length : Int)) = true := decide_eq_true (by omega)
      by_cases h2 : k < Y.length
      · have e2 : decide ((k : Int) < (Y.length : Int)) = true := decide_eq_true (by omega)
        obtain ⟨x, hx⟩ : ∃ x, X[k]? = some x := ⟨_, List.getElem?_eq_getElem h1⟩
        obtain ⟨y, hy⟩ : ∃ y, Y[k]? = some y := ⟨_, List.getElem?_eq_getElem h2⟩
        have HS := Lib.hid (HL.out.trans (lex_step hx hy))
        have HX4 := Lib.hid (owns_to HX3.out HB4.out)
        have HY4 := Lib.hid (owns_to HO3.out HB4.out)
        have hlx : (strs (X.map mkB)).length = X.length := by unfold strs; simp
        obtain ⟨gx, cx', ex, _, _⟩ := owns_some HX4.out (by omega)
        obtain ⟨gy, cy', ey, _, _⟩ := owns_some HY4.out (by omega)
        simp only [Value.slice.injEq] at ex ey
        obtain ⟨rfl, _, rfl⟩ := ex
        obtain ⟨rfl, _, rfl⟩ := ey
        have a0 : ∀ n, (wr.drewN n).cell? ⟨gx, k, none⟩ = some (.string (mkB x)) := fun n => owns_cell HX4.out (strs_at hx)
        have a1 : ∀ n, (wr.drewN n).cell? ⟨gy, k, none⟩ = some (.string (mkB y)) := fun n => owns_cell HY4.out (strs_at hy)
        have b0 : wr.cell? ⟨gx, k, none⟩ = some (.string (mkB x)) := owns_cell HX4.out (strs_at hx)
        have b1 : wr.cell? ⟨gy, k, none⟩ = some (.string (mkB y)) := owns_cell HY4.out (strs_at hy)
        have HLs := Lib.hid (fun W => rless_any (mkB x) (mkB y) W (by rw [← size_list, mkB_list]; have := HXs.out x (List.mem_of_getElem? hx); omega) (by rw [← size_list, mkB_list]; have := HYs.out y (List.mem_of_getElem? hy); omega))
        simp only [mkB_list] at HLs
        clear hx hy HL
        go_upto_region 5 with fail
        go_quiet (first | (go_at_call 100; refine Calls.quiet_of (HLs.out _)))
        have HBd := Lib.hid (show Below w.heap.size w (wr.drewN nq) from below_drewNb HB.out)
        have HBe := Lib.hid (show Below w3.heap.size w3 (wr.drewN nq) from below_drewNb HB4.out)
        generalize wr.drewN nq = w5 at HBd HBe ⊢
        by_cases q : lessL x y = 0
        · rw [if_pos q] at HS
          rw [q]
          go_wp2_with fail
          go_roundw
          case rel => exact ⟨k + 1, by omega, by omega, by simp, HS, HBd, HBe⟩
          case measure => simp [intOf]; omega
        · rw [if_neg q] at HS
          have d0 : (lessL x y != 0) = true := by simpa using q
          go_wp2_with fail
          go_ret
          exact ⟨ret_int HS.out.symm, HBd.out⟩
      · have e2 : decide ((k : Int) < (Y.length : Int)) = false := decide_eq_false (by omega)
        have HE := Lib.hid (HL.out.trans (lex_end (.inr (by omega)) (by omega) (by omega)))
        by_cases q1 : X.length < Y.length
        · rw [if_pos q1] at HE
          go_wp2_with fail
          go_ret
          exact ⟨ret_int HE.out.symm, HB.out⟩
        · rw [if_neg q1] at HE
          by_cases q2 : Y.length < X.length
          · rw [if_pos q2] at HE
            go_wp2_with fail
            go_ret
            exact ⟨ret_int HE.out.symm, HB.out⟩
          · rw [if_neg q2] at HE
            go_wp2_with fail
            go_ret
            exact ⟨ret_int HE.out.symm, HB.out⟩
    · have e1 : decide ((k : Int) < (X.length : Int)) = false := decide_eq_false (by omega)
      have HE := Lib.hid (HL.out.trans (lex_end (.inl (by omega)) (by omega) (by omega)))
      by_cases q1 : X.length < Y.length
      · rw [if_pos q1] at HE
        go_wp2_with fail
        go_ret
        exact ⟨ret_int HE.out.symm, HB.out⟩
      · rw [if_neg q1] at HE
        by_cases q2 : Y.length < X.length
        · rw [if_pos q2] at HE
          go_wp2_with fail
          go_ret
          exact ⟨ret_int HE.out.symm, HB.out⟩
        · rw [if_neg q2] at HE
          go_wp2_with fail
          go_ret
          exact ⟨ret_int HE.out.symm, HB.out⟩
end Go.Proofs.YtfhagjnlliafiaaGreatDoor.O
namespace Go.Proofs.YtfhagjnlliafiaaGreatDoor.O
open Go.Proofs.YtfhagjnlliafiaaGreatDoor.B
open Go.RowKit
def kyL (k : Ky) : List Value := [.string k.name, .int .i64 k.size, .int .i64 k.time, .bool k.dir]
def kyV (k : Ky) : Value := .agg #[.string k.name, .int .i64 k.size, .int .i64 k.time, .bool k.dir]
theorem ext_len (l : List UInt8) : (extL l).length ≤ l.length := by
  unfold extL
  have : ∀ n, (extGo l n).length ≤ l.length := fun n => by
    induction n with
    | zero => exact Nat.zero_le _
    | succ n ih =>
      rw [extGo]
      split
      · rw [List.length_drop]; omega
      · exact ih
  exact this _
theorem same_symm {P : Program} {f : FuncId} {a : Array Value} {w : World} {v : Value} (h : Calls P f a w fun e w' => e = .returned v ∧ w = w') : Calls P f a w fun e w' => e = .returned v ∧ w' = w := h.mono fun e w' ⟨p, q⟩ => ⟨p, q.symm⟩
theorem rcompare_any (o : Int) (a b : Ky) (w : World) (ha : a.name.size ≤ 60000) (hb : b.name.size ≤ 60000) :
    Calls Tryz.prog 74 #[.int .i64 o, kyV a, kyV b] w fun e w' => e = .returned (.int .i64 (cmpK o a b)) ∧ Below w.heap.size w w' := by
  have HLs := Lib.hid (fun W => rless_any a.name b.name W (by omega) (by omega))
  have HEx := Lib.hid (fun (s : ByteArray) (h : s.size ≤ 60000) W => rext_any s W (by omega))
  have HLe := Lib.hid (fun W => rless_any (mkB (extL a.name.data.toList)) (mkB (extL b.name.data.toList)) W (by rw [← size_list, mkB_list]; have := ext_len a.name.data.toList; rw [size_list] at this; omega) (by rw [← size_list, mkB_list]; have := ext_len b.name.data.toList; rw [size_list] at this; omega))
  have HVe := Lib.hid (fun W => rversion_any a.name b.name W ha hb)
  have HN1 := Lib.hid (fun W => rnumbers_any a.size b.size W)
  have HN2 := Lib.hid (fun W => rnumbers_any a.time b.time W)
  simp only [mkB_list] at HLe
  have HC := Lib.hid (show cmpK o a b = if ordC o a b = 0 then nameC a b else ordC o a b from rfl)
  have HO := Lib.hid (show ordC o a b = if o = 1 then cmpI b.size a.size else if o = 2 then cmpI b.time a.time else if o = 3 then lessL (extL a.name.data.toList) (extL b.name.data.toList) else if o = 4 then verL a.name.data.toList b.name.data.toList else 0 from rfl)
  have HNm := Lib.hid (show nameC a b = lessL a.name.data.toList b.name.data.toList from rfl)
  generalize ordC o a b = C at HC HO
  rw [HNm.out] at HC
  generalize cmpK o a b = R at HC ⊢
  unfold kyV
  go_enter Tryz.func74, Tryz.ntmps74
  go_upto_region 1 with fail
  have HXa := Lib.hid (show ((w.alloc (.cells #[.string a.name, .int .i64 a.size, .int .i64 a.time, .bool a.dir] 70)).alloc (.cells #[.string b.name, .int .i64 b.size, .int .i64 b.time, .bool b.dir] 70)).heap[w.heap.size]? = some (.cells #[.string a.name, .int .i64 a.size, .int .i64 a.time, .bool a.dir] 70 (0, 0)) from by
    have h1 := heap_alloc_new w (.cells #[.string a.name, .int .i64 a.size, .int .i64 a.time, .bool a.dir] 70)
    have h2 : Below (w.heap.size + 1) (w.alloc (.cells #[.string a.name, .int .i64 a.size, .int .i64 a.time, .bool a.dir] 70)) ((w.alloc (.cells #[.string a.name, .int .i64 a.size, .int .i64 a.time, .bool a.dir] 70)).alloc (.cells #[.string b.name, .int .i64 b.size, .int .i64 b.time, .bool b.dir] 70)) := (Below.refl _ _).alloc (by simp) _
    exact (h2.block _ (by omega)).trans h1)
  have HXb := Lib.hid (show ((w.alloc (.cells #[.string a.name, .int .i64 a.size, .int .i64 a.time, .bool a.dir] 70)).alloc (.cells #[.string b.name, .int .i64 b.size, .int .i64 b.time, .bool b.dir] 70)).heap[w.heap.size + 1]? = some (.cells #[.string b.name, .int .i64 b.size, .int .i64 b.time, .bool b.dir] 70 (0, 0)) from by
    have h1 := heap_alloc_new (w.alloc (.cells #[.string a.name, .int .i64 a.size, .int .i64 a.time, .bool a.dir] 70)) (.cells #[.string b.name, .int .i64 b.size, .int .i64 b.time, .bool b.dir] 70)
    rwa [show (w.alloc (.cells #[.string a.name, .int .i64 a.size, .int .i64 a.time, .bool a.dir] 70)).heap.size = w.heap.size + 1 from by simp] at h1)
  have HB := Lib.hid (show Below w.heap.size w ((w.alloc (.cells #[.string a.name, .int .i64 a.size, .int .i64 a.time, .bool a.dir] 70)).alloc (.cells #[.string b.name, .int .i64 b.size, .int .i64 b.time, .bool b.dir] 70)) from ((Below.refl _ _).alloc (Nat.le_refl _) _).alloc (by simp) _)
  generalize (w.alloc (.cells #[.string a.name, .int .i64 a.size, .int .i64 a.time, .bool a.dir] 70)).alloc (.cells #[.string b.name, .int .i64 b.size, .int .i64 b.time, .bool b.dir] 70) = w2 at HXa HXb HB ⊢
  have HSz := Lib.hid HB.out.size
  obtain ⟨gA, hgA⟩ : ∃ g, w.heap.size = g := ⟨_, rfl⟩
  have HgA := Lib.hid hgA
  rw [hgA] at HXa HXb HB HSz ⊢
  clear hgA
  generalize gA + 1 = gB at HXb ⊢
  have HKa := Lib.hid (show ∀ W, Below w2.heap.size w2 W → W.cell? ⟨gA, 0, none⟩ = some (.string a.name) ∧ W.cell? ⟨gA, 1, none⟩ = some (.int .i64 a.size) ∧ W.cell? ⟨gA, 2, none⟩ = some (.int .i64 a.time) from fun W hW => by
    have q := (hW.block _ (heap_lt HXa.out)).trans HXa.out
    refine ⟨?_, ?_, ?_⟩ <;> (rw [cell_of_row _ _ _ _ _ _ q]; rfl))
  have HKb := Lib.hid (show ∀ W, Below w2.heap.size w2 W → W.cell? ⟨gB, 0, none⟩ = some (.string b.name) ∧ W.cell? ⟨gB, 1, none⟩ = some (.int .i64 b.size) ∧ W.cell? ⟨gB, 2, none⟩ = some (.int .i64 b.time) from fun W hW => by
    have q := (hW.block _ (heap_lt HXb.out)).trans HXb.out
    refine ⟨?_, ?_, ?_⟩ <;> (rw [cell_of_row _ _ _ _ _ _ q]; rfl))
  clear HXa HXb
  iterate 8 go_step
  go_cut [7] from 8 to 38 (fun v7 wx => v7 = .int .i64 C ∧ Hid (Below w2.heap.size w2 wx))
  case first =>
    obtain ⟨a0, a1, a2⟩ := HKa.out w2 (Below.refl _ _)
    obtain ⟨b0, b1, b2⟩ := HKb.out w2 (Below.refl _ _)
    by_cases o1 : o = 1
    · rw [if_pos o1] at HO
      have d1 : (o == 1) = true := beq_iff_eq.2 o1
      clear o1
      go_wp2_with (go_at_call 99; refine (HN1.out _).mono ?_; rintro e w3 ⟨rfl, hw⟩; subst hw)
      go_meet
      case rel => exact ⟨by rw [HO.out], Lib.hid (Below.refl _ _)⟩
    · rw [if_neg o1] at HO
      have d1 : (o == 1) = false := beq_eq_false_iff_ne.2 o1
      clear o1
      by_cases o2 : o = 2
      · rw [if_pos o2] at HO
        have d2 : (o == 2) = true := beq_iff_eq.2 o2
        clear o2
        go_wp2_with (go_at_call 99; refine (HN2.out _).mono ?_; rintro e w3 ⟨rfl, hw⟩; subst hw)
        go_meet
        case rel => exact ⟨by rw [HO.out], Lib.hid (Below.refl _ _)⟩
      · rw [if_neg o2] at HO
        have d2 : (o == 2) = false := beq_eq_false_iff_ne.2 o2
        clear o2
        by_cases o3 : o = 3
        · rw [if_pos o3] at HO
          have d3 : (o == 3) = true := beq_iff_eq.2 o3
          clear o3
          have aq : ∀ n, (w2.drewN n).cell? ⟨gA, 0, none⟩ = some (.string a.name) := fun n => (HKa.out _ (below_drewNb (Below.refl _ _))).1
          have bq : ∀ n, (w2.drewN n).cell? ⟨gB, 0, none⟩ = some (.string b.name) := fun n => (HKb.out _ (below_drewNb (Below.refl _ _))).1
          go_upto_region 8 with fail
          go_quiet (first
            | (go_at_call 100; refine Calls.quiet_of (HLe.out _))
            | (go_at_call 101; refine Calls.quiet_of_same (same_symm (HEx.out _ (by first | exact ha | exact hb) _))))
          go_wp2
          go_meet
          case rel => exact ⟨by rw [HO.out], Lib.hid (below_drewNb (Below.refl _ _))⟩
        · rw [if_neg o3] at HO
          have d3 : (o == 3) = false := beq_eq_false_iff_ne.2 o3
          clear o3
          by_cases o4 : o = 4
          · rw [if_pos o4] at HO
            have d4 : (o == 4) = true := beq_iff_eq.2 o4
            clear o4
            go_wp2_with (go_at_call 102; refine (HVe.out _).mono ?_; rintro e w3 ⟨rfl, hb⟩; have HB3 := Lib.hid hb; clear hb)
            go_meet
            case rel => exact ⟨by rw [HO.out], HB3⟩
          · rw [if_neg o4] at HO
            have d4 : (o == 4) = false := beq_eq_false_iff_ne.2 o4
            clear o4
            go_wp2_with fail
            go_meet
            case rel => exact ⟨by rw [HO.out], Lib.hid (Below.refl _ _)⟩
  case rest =>
    obtain ⟨rfl, HBc⟩ := hcut
    obtain ⟨a0, a1, a2⟩ := HKa.out wc HBc.out
    obtain ⟨b0, b1, b2⟩ := HKb.out wc HBc.out
    have HBf := Lib.hid (HB.out.trans (HBc.out.mono HSz.out))
    by_cases q : C = 0
    · rw [if_pos q] at HC
      rw [q]
      clear q
      go_wp2_with (go_at_call 100; refine (HLs.out _).mono ?_; rintro e w3 ⟨rfl, m, rfl⟩)
      go_ret
      exact ⟨ret_int HC.out.symm, (by rw [HgA.out]; exact below_drewNb HBf.out)⟩
    · rw [if_neg q] at HC
      have d0 : (C != 0) = true := by simpa using q
      clear q
      go_wp2_with fail
      go_ret
      exact ⟨ret_int HC.out.symm, (by rw [HgA.out]; exact HBf.out)⟩
end Go.Proofs.YtfhagjnlliafiaaGreatDoor.O
