/-
  A change, as a value; what FS.hasEntry and makesNode return. Conditions: at most 1000000 entries.
-/
import Derived.Test.YtknfhphhcnbndaaGreatDoorGVAdd
set_option linter.unusedVariables false
set_option linter.unusedSimpArgs false
namespace Go.Proofs.YtknfhphhcnbndaaGreatDoor.V
open Go.RowKit

structure Chg where
  kind : Int
  at_ : Int
  to : Int
  name : ByteArray
  text : ByteArray
  a : Int
  b : Int
  n : Int
def chgV (c : Chg) : Value := .agg #[.int .i64 c.kind, .int .i64 c.at_, .int .i64 c.to, .string c.name, .string c.text, .int .i64 c.a, .int .i64 c.b, .int .i64 c.n]

/-- Are two texts the same? -/
def sameT (a b : ByteArray) : Bool := a.toList == b.toList
def hasEnt (s : ByteArray) (l : List (ByteArray × Int)) : Bool := l.any (fun e => sameT e.1 s)
theorem hasEnt_next {s : ByteArray} {l : List (ByteArray × Int)} {k : Nat} {e : ByteArray × Int} (h : l[k]? = some e) : hasEnt s (l.take (k + 1)) = (hasEnt s (l.take k) || sameT e.1 s) := by
  unfold hasEnt
  rw [List.take_add_one, h, List.any_append]
  simp
theorem hasEnt_here {s : ByteArray} {l : List (ByteArray × Int)} {k : Nat} {e : ByteArray × Int} (h : l[k]? = some e) (hs : sameT e.1 s = true) : hasEnt s l = true := by
  unfold hasEnt
  rw [List.any_eq_true]
  exact ⟨e, List.mem_of_getElem? h, hs⟩

def HasRel (l : List (ByteArray × Int)) (s : ByteArray) (w : World) (v : Value) (wr : World) : Prop :=
  ∃ k : Nat, k ≤ l.length ∧ v = .int .i64 (k : Int) ∧ Below w.heap.size w wr ∧ hasEnt s (l.take k) = false

set_option maxRecDepth 100000 in
set_option maxHeartbeats 2000000 in
theorem hasEntry_any (h : Fsh) (i : Nat) (x : Nd × Value) (s : ByteArray) (w : World) (H : Fs h w) (hx : h.X[i]? = some x) (hl : x.1.ents.length ≤ 1000000) :
    Calls Tryz.prog 179 #[.pointer (some ⟨h.p, 0, none⟩), .int .i64 (i : Int), .string s] w fun e w' => e = .returned (.bool (hasEnt s x.1.ents)) ∧ Below w.heap.size w w' := by
  have hi : i < h.X.length := (List.getElem?_eq_some_iff.1 hx).1
  obtain ⟨g, cap, hv, _, _⟩ := H.slice (by omega)
  have c0 := H.cell0
  rw [hv] at c0
  have c16 := H.at_node hv hx (k := 16) (by omega) rfl
  have HO := Lib.hid (H.ents x (List.mem_of_getElem? hx))
  obtain ⟨n, ev⟩ := x
  obtain ⟨eo, ec, hev⟩ : ∃ ao cap, ev = .slice ao n.ents.length cap := by
    rcases HO.out.2 with ⟨e, e2⟩ | ⟨g, cap, cur, e, _⟩
    · exact ⟨none, 0, by have e' : ev = _ := e; have e3 : n.ents.length = 0 := e2; rw [e', e3]⟩
    · exact ⟨_, cap, e⟩
  have c16' : w.cell? ⟨g, i * 17 + 16, none⟩ = some (.slice eo n.ents.length ec) := by rw [← hev]; exact c16
  have hl' : n.ents.length ≤ 1000000 := hl
  show Calls _ _ _ _ fun e w' => e = .returned (.bool (hasEnt s n.ents)) ∧ _
  have HEV := Lib.hid hev
  clear hev hv hx c16 hl
  go_enter Tryz.func179, Tryz.ntmps179
  go_wp2
  go_loopw [18] (HasRel n.ents s w) (fun v _ => n.ents.length - (intOf v).toNat)
  case atStart => exact ⟨0, Nat.zero_le _, rfl, Below.refl _ _, rfl⟩
  case round =>
    obtain ⟨k, hk, rfl, hb, hno⟩ := hrel
    have HB := Lib.hid hb
    have HN := Lib.hid hno
    clear hb hno
    by_cases hlt : k < n.ents.length
    · obtain ⟨e, he⟩ : ∃ e, n.ents[k]? = some e := ⟨_, List.getElem?_eq_getElem hlt⟩
      have HE := Lib.hid he
      obtain ⟨eg, ec', hes, _, _⟩ := owns_some HO.out (show 0 < n.ents.length by omega)
      have hes' : ev = _ := hes
      obtain ⟨rfl, rfl⟩ : eo = some ⟨eg, 0, none⟩ ∧ ec' = ec := by
        have := HEV.out
        rw [hes'] at this
        simp only [Value.slice.injEq, true_and] at this
        exact ⟨this.1.symm, this.2⟩
      have own2 : w.ownsRow 0 177 2 (.slice (some ⟨eg, 0, none⟩) n.ents.length ec') n.ents.length (entCells n.ents) := by rw [← hes']; exact HO.out
      have egl : eg < w.heap.size := (own2.lt eg rfl).2
      have e0 : wr.cell? ⟨eg, k * 2, none⟩ = some (.string e.1) := by rw [HB.out.cell (p := ⟨eg, k * 2, none⟩) egl]; exact owns_cell own2 (entCells_get _ _ _ he).1
      have e1 : wr.cell? ⟨eg, k * 2 + 1, none⟩ = some (.int .i64 e.2) := by rw [HB.out.cell (p := ⟨eg, k * 2 + 1, none⟩) egl]; exact owns_cell own2 (entCells_get _ _ _ he).2
      clear own2 hes hes' he
      go_wp2
      · have hs : (e.1.toList == s.toList) = true := by assumption
        have R := Lib.hid (hasEnt_here HE.out hs)
        have hb := HB.out.size
        have R2 := Lib.hid (HB.out.alloc hb (.cells #[.string e.1, .int .i64 e.2] 177))
        go_ret
        exact ⟨ret_bool R.out.symm, R2.out⟩
      · have hs : (e.1.toList == s.toList) = false := by assumption
        have hb := HB.out.size
        go_roundw
        case rel => exact ⟨k + 1, by omega, by simp, HB.out.alloc hb _, by rw [hasEnt_next HE.out, HN.out]; exact hs⟩
        case measure => simp [intOf]; omega
    · go_wp2
      go_ret
      exact ⟨ret_bool (by rw [← HN.out, show k = n.ents.length by omega, List.take_length]), HB.out⟩

set_option maxHeartbeats 1000000 in
theorem makes_any (k : Int) (w : World) :
    Calls Tryz.prog 126 #[.int .i64 k] w fun e w' => e = .returned (.bool (k == 0 || k == 1 || k == 3 || k == 7)) ∧ w = w' := by
  by_cases h0 : k = 0
  · subst h0
    go_enter Tryz.func126, Tryz.ntmps126
    go_wp2
    go_ret
    exact ⟨rfl, rfl⟩
  by_cases h1 : k = 1
  · subst h1
    go_enter Tryz.func126, Tryz.ntmps126
    go_wp2
    go_ret
    exact ⟨rfl, rfl⟩
  by_cases h3 : k = 3
  · subst h3
    go_enter Tryz.func126, Tryz.ntmps126
    go_wp2
    go_ret
    exact ⟨rfl, rfl⟩
  by_cases h7 : k = 7
  · subst h7
    go_enter Tryz.func126, Tryz.ntmps126
    go_wp2
    go_ret
    exact ⟨rfl, rfl⟩
  have b0 : (k == 0) = false := by simp [h0]
  have b1 : (k == 1) = false := by simp [h1]
  have b3 : (k == 3) = false := by simp [h3]
  have b7 : (k == 7) = false := by simp [h7]
  clear h0 h1 h3 h7
  go_enter Tryz.func126, Tryz.ntmps126
  go_wp2
  go_ret
  exact ⟨by simp [b0, b1, b3, b7], rfl⟩
end Go.Proofs.YtknfhphhcnbndaaGreatDoor.V
