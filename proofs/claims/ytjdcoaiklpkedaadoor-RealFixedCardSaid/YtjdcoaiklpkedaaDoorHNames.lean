/-
  What path.Names and the reference's Names return: a path's names, and whether it begins, and ends, with a slash. Conditions: at most 100000 bytes.
-/
import Derived.Test.YtjdcoaiklpkedaaDoorHNamesM
import Derived.Test.YtjdcoaiklpkedaaDoorShelf
import Derived.Test.YtjdcoaiklpkedaaDoorRows
import Derived.WalkKit
import Derived.WalkSpells
import Derived.WalkLawsBesides
import Derived.OwnWalk
import Derived.Deep.AppendLies
import Derived.Lib.Hide
import Derived.Shelf.GgClosure.Gives
set_option linter.unusedVariables false
namespace Go.Proofs.YtjdcoaiklpkedaaDoor
open Go.RowKit Go.Shelf

def strs (l : List ByteArray) : List Value := l.map Value.string
def beginsB (s : ByteArray) : Bool := Lib.hasPrefix s.data.toList [47]
def endsB (s : ByteArray) : Bool := Lib.hasSuffix s.data.toList [47]

theorem clo_pays (w : World) : PredAt Tryd.prog 39 #[] encR isSl w := fun W r _ => by
  unfold FnGives
  go_enter Tryd.func39, Tryd.ntmps39
  go_wp2
  go_ret
  refine ⟨?_, 0, rfl⟩
  have e : ((r : Int) == 47) = isSl r := by
    unfold isSl
    rw [Bool.eq_iff_iff, beq_iff_eq, beq_iff_eq]
    omega
  rw [e]
  rfl

theorem names_any (s : ByteArray) (w : World) (hs : s.size ≤ 100000) :
    Calls Tryd.prog 18 #[.string s] w fun e w' => ∃ A, e = .returned (.tuple #[.slice (some ⟨A, 0, none⟩) (namesL s).length (namesL s).length, .bool (beginsB s), .bool (endsB s)]) ∧ w.heap.size ≤ A ∧
      w'.ownsRow w.heap.size 9 1 (.slice (some ⟨A, 0, none⟩) (namesL s).length (namesL s).length) (namesL s).length (strs (namesL s)) ∧ Below w.heap.size w w' := by
  have cF : Calls Tryd.prog 38 #[.string s, .func (.func 39) #[] #[]] w _ := Tryd.strings_FieldsFunc 39 #[] (enters_of Tryd.func39 (by kernel_rfl) rfl) isSl s w (by omega) (clo_pays w)
  rw [fields_names] at cF
  have HC := Lib.hid cF
  clear cF
  go_enter Tryd.func18, Tryd.ntmps18
  go_wp2_with (first
    | (go_at_call 38; refine HC.out.mono ?_; rintro e w2 ⟨A, rfl, hA, hown, hb⟩; have HO := Lib.hid hown; have HB := Lib.hid hb; clear hown hb)
    | (go_at_call 40; refine (Tryd.strings_HasPrefix _ _ _).mono ?_; rintro e w3 ⟨rfl, hw⟩; subst hw)
    | (go_at_call 41; refine (Tryd.strings_HasSuffix _ _ _ (by omega)).mono ?_; rintro e w3 ⟨rfl, hw⟩; subst hw))
  exact bodyPost_ret (v := .tuple #[.slice (some ⟨A, 0, none⟩) (namesL s).length (namesL s).length, .bool (beginsB s), .bool (endsB s)]) (by simp [results, Tryd.results18, go_sem, beginsB, endsB]) rfl ⟨A, rfl, hA, HO.out, HB.out⟩

/-- What the reference's loop holds: i bytes are read. -/
def RNmRel (s : ByteArray) (w : World) (v f i : Value) (wr : World) : Prop :=
  ∃ k : Nat, k ≤ s.size + 1 ∧ i = .int .i64 (k : Int) ∧ f = .int .i64 ((nmGo s k).2 : Int) ∧ Hid (Below w.heap.size w wr) ∧ Hid (wr.ownsRow w.heap.size 9 1 v (nmGo s k).1.length ((nmGo s k).1.map fun x => .string (s.extract x.1 x.2)))
theorem infoStr : (Tryd.prog.info? 9).map (fun i => (i.zero, i.size, i.bytes)) = some (some (.string ⟨#[]⟩), 1, 16) := by kernel_rfl

set_option maxRecDepth 100000 in
set_option maxHeartbeats 4000000 in
theorem refNames_any (s : ByteArray) (w : World) (hs : s.size ≤ 100000) :
    Calls Tryd.prog 8 #[.string s] w fun e w' => ∃ v, e = .returned v ∧ w'.ownsRow w.heap.size 9 1 v (namesL s).length (strs (namesL s)) ∧ Below w.heap.size w w' := by
  obtain ⟨i0, hi0, hz0, hz1, hz2⟩ := info_parts infoStr
  go_enter Tryd.func8, Tryd.ntmps8
  go_wp2
  go_loopw [3, 4, 5] (RNmRel s w) (fun _ _ v _ => s.size + 1 - (intOf v).toNat)
  case atStart => exact ⟨0, Nat.zero_le _, rfl, rfl, Lib.hid (Below.refl _ _), Lib.hid (World.ownsRow_nil _ _ _ _)⟩
  case round =>
    obtain ⟨k, hk, rfl, rfl, HB, HO⟩ := hrel
    have hfl := nmGo_le s k
    obtain ⟨hok1, hok2⟩ := nmGo_ok s k hk
    have HG := Lib.hid (show nmGo s (k + 1) = nmStep s k (nmGo s k) from rfl)
    obtain ⟨x, hx⟩ : ∃ x, nmGo s k = x := ⟨_, rfl⟩
    have HG0 := Lib.hid hx
    rw [hx] at hfl hok1 hok2 HO HG ⊢
    clear hx
    obtain ⟨acc, fr⟩ := x
    have hfl : fr ≤ k := hfl
    have hok1 : acc.length ≤ k := hok1
    have hsz := HB.out.size
    by_cases hle : k ≤ s.size
    · have cut : ∀ (hc : k = s.size ∨ sl s k = true), Hid (nmGo s (k + 1) = ((if fr < k then acc ++ [(fr, k)] else acc), k + 1)) := fun hc => Lib.hid (by rw [HG.out, nmStep, if_pos hc])
      have HM := Lib.hid (show acc.length + 1 ≤ maxLen from by unfold maxLen; omega)
      by_cases hend : k = s.size
      · have HX := cut (.inl hend)
        have d0 : ((k : Int) == (s.size : Int)) = true := by rw [hend]; simp
        have HE := Lib.hid hend
        clear cut HG hend
        by_cases hf : fr < k
        · have d1 : decide ((fr : Int) < (k : Int)) = true := decide_eq_true (by omega)
          go_wp2_with (at_builtin; go_loud (refine wpList_append_own _ rfl (.tmp 25) (.tmp 30) 41 rfl w.heap.size 9 i0 (.string ⟨#[]⟩) 1 16 Tryd.underlying41 hi0 hz0 hz1 hz2 rfl (by decide) _ _ _ rfl (HO.out.alloc _) ⟨wr.heap.size, 0, none⟩ 1 1 [.string (s.extract fr k)] rfl rfl (World.news_of_block (heap_alloc_new _ _)) (by intro u hu; simp at hu; subst hu; rfl) HM.out (by omega) (by simp; omega) ?_; intro v1 w1 hown1 hgrow hnil))
          have R : RNmRel s w v1 (.int .i64 ((k : Int) + 1)) (.int .i64 ((k : Int) + 1)) w1 := by
            have e : nmGo s (k + 1) = (acc ++ [(fr, k)], k + 1) := by rw [HX.out, if_pos hf]
            refine ⟨k + 1, by omega, by simp, by rw [e]; simp, Lib.hid ((HB.out.alloc hsz _).grown hgrow (by simp; omega) (fun j hj => (HO.out.lt j hj).1)), Lib.hid ?_⟩
            rw [e]
            show w1.ownsRow _ _ _ _ (acc ++ [(fr, k)]).length ((acc ++ [(fr, k)]).map _)
            rw [List.length_append, List.map_append]
            exact hown1
          have RR := Lib.hid R
          clear R hown1 hgrow hnil
          go_roundw
          case rel => exact RR.out
          case measure => simp [intOf]; omega
        · have d1 : decide ((fr : Int) < (k : Int)) = false := decide_eq_false (by omega)
          have R : RNmRel s w u3 (.int .i64 ((k : Int) + 1)) (.int .i64 ((k : Int) + 1)) wr := by
            have e : nmGo s (k + 1) = (acc, k + 1) := by rw [HX.out, if_neg hf]
            refine ⟨k + 1, by omega, by simp, by rw [e]; simp, HB, Lib.hid ?_⟩
            rw [e]
            exact HO.out
          have RR := Lib.hid R
          clear R
          go_wp2
          go_roundw
          case rel => exact RR.out
          case measure => simp [intOf]; omega
      · have hlt : k < s.size := by omega
        have hget : s.get! k = s[k]'hlt := by simp [ByteArray.get!, hlt]; rfl
        have d0 : ((k : Int) == (s.size : Int)) = false := beq_eq_false_iff_ne.2 (by omega)
        cases hs47 : sl s k with
        | true =>
          have HX := cut (.inr hs47)
          have d2 : (((s[k]'hlt).toNat : Int) == 47) = true := by
            unfold sl at hs47
            rw [hget, beq_iff_eq] at hs47
            rw [beq_iff_eq]
            omega
          have HE := Lib.hid hend
          clear cut HG hend hs47 hget
          by_cases hf : fr < k
          · have d1 : decide ((fr : Int) < (k : Int)) = true := decide_eq_true (by omega)
            go_wp2_with (at_builtin; go_loud (refine wpList_append_own _ rfl (.tmp 25) (.tmp 30) 41 rfl w.heap.size 9 i0 (.string ⟨#[]⟩) 1 16 Tryd.underlying41 hi0 hz0 hz1 hz2 rfl (by decide) _ _ _ rfl (HO.out.alloc _) ⟨wr.heap.size, 0, none⟩ 1 1 [.string (s.extract fr k)] rfl rfl (World.news_of_block (heap_alloc_new _ _)) (by intro u hu; simp at hu; subst hu; rfl) HM.out (by omega) (by simp; omega) ?_; intro v1 w1 hown1 hgrow hnil))
            have R : RNmRel s w v1 (.int .i64 ((k : Int) + 1)) (.int .i64 ((k : Int) + 1)) w1 := by
              have e : nmGo s (k + 1) = (acc ++ [(fr, k)], k + 1) := by rw [HX.out, if_pos hf]
              refine ⟨k + 1, by omega, by simp, by rw [e]; simp, Lib.hid ((HB.out.alloc hsz _).grown hgrow (by simp; omega) (fun j hj => (HO.out.lt j hj).1)), Lib.hid ?_⟩
              rw [e]
              show w1.ownsRow _ _ _ _ (acc ++ [(fr, k)]).length ((acc ++ [(fr, k)]).map _)
              rw [List.length_append, List.map_append]
              exact hown1
            have RR := Lib.hid R
            clear R hown1 hgrow hnil
            go_roundw
            case rel => exact RR.out
            case measure => simp [intOf]; omega
          · have d1 : decide ((fr : Int) < (k : Int)) = false := decide_eq_false (by omega)
            have R : RNmRel s w u3 (.int .i64 ((k : Int) + 1)) (.int .i64 ((k : Int) + 1)) wr := by
              have e : nmGo s (k + 1) = (acc, k + 1) := by rw [HX.out, if_neg hf]
              refine ⟨k + 1, by omega, by simp, by rw [e]; simp, HB, Lib.hid ?_⟩
              rw [e]
              exact HO.out
            have RR := Lib.hid R
            clear R
            go_wp2
            go_roundw
            case rel => exact RR.out
            case measure => simp [intOf]; omega
        | false =>
          have d2 : (((s[k]'hlt).toNat : Int) == 47) = false := by
            unfold sl at hs47
            rw [hget, beq_eq_false_iff_ne] at hs47
            rw [beq_eq_false_iff_ne]
            omega
          have R : RNmRel s w u3 (.int .i64 (fr : Int)) (.int .i64 ((k : Int) + 1)) wr := by
            have e : nmGo s (k + 1) = (acc, fr) := by rw [HG.out, nmStep, if_neg (by rw [hs47]; simp; omega)]
            refine ⟨k + 1, by omega, by simp, by rw [e], HB, Lib.hid ?_⟩
            rw [e]
            exact HO.out
          have RR := Lib.hid R
          clear R cut HG hend hs47 hget
          go_wp2
          go_roundw
          case rel => exact RR.out
          case measure => simp [intOf]; omega
    · obtain rfl : k = s.size + 1 := by omega
      have hn : nmSpans s = acc := congrArg Prod.fst HG0.out
      go_wp2
      go_ret
      have e : namesL s = acc.map fun x => s.extract x.1 x.2 := by unfold namesL; rw [hn]
      refine ⟨_, rfl, ?_, HB.out⟩
      have := HO.out
      rw [e]
      unfold strs
      rw [List.length_map, List.map_map]
      exact this
end Go.Proofs.YtjdcoaiklpkedaaDoor
