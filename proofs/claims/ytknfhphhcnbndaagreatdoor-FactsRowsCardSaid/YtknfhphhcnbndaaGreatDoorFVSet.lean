/-
  What node.set makes of a node: its mode, its owner and group, a time, or that it can't be read. Conditions: the change is one of these, and of a time that there is.
-/
import Derived.Test.YtknfhphhcnbndaaGreatDoorFVBuild
import Derived.Test.YtknfhphhcnbndaaGreatDoorFVEnter
set_option linter.unusedVariables false
set_option linter.unusedSimpArgs false
namespace Go.Proofs.YtknfhphhcnbndaaGreatDoor.V
open Go.RowKit

def maxI (a b : Int) : Int := if a < b then b else a
def setNd (c : Chg) (n : Nd) : Nd :=
  if c.kind = 4 then { n with mode := c.a % 4096 }
  else if c.kind = 5 then { n with uid := maxI c.a 0, gid := maxI c.b 0 }
  else if c.kind = 6 then (if c.a = 0 then { n with t0 := c.n } else if c.a = 1 then { n with t1 := c.n } else { n with t2 := c.n })
  else { n with dead := true }
theorem setNd_ents (c : Chg) (n : Nd) : (setNd c n).ents = n.ents := by
  unfold setNd
  repeat' split
  all_goals rfl

/-- One store into a node, behind whatever has been stored already. -/
theorem set_end {h h1 : Fsh} {w w2 : World} (H : Fs h1 w2) (hG : Grew h h1 w w2) (hp : h1.p = h.p) (hvv : h1.v = h.v) {g cap : Nat} (hv : h1.v = .slice (some ⟨g, 0, none⟩) h1.X.length cap) {i : Nat} {n0 n n' : Nd} {ev : Value} (hx0 : h.X[i]? = some (n0, ev)) (hX : h1.X = h.X.set i (n, ev)) {k : Nat} (hk : k < 17) {u : Value}
    (hs : n'.cells ev = (n.cells ev).set k u) (he : n'.ents = n.ents) :
    Fs ⟨h.p, h.v, h.X.set i (n', ev)⟩ (w2.setCell ⟨g, i * 17 + k, none⟩ u) ∧ Grew h ⟨h.p, h.v, h.X.set i (n', ev)⟩ w (w2.setCell ⟨g, i * 17 + k, none⟩ u) := by
  have hi := (List.getElem?_eq_some_iff.1 hx0).1
  have hx : h1.X[i]? = some (n, ev) := by rw [hX, List.getElem?_set, if_pos rfl, if_pos hi]
  obtain ⟨r1, r2⟩ := H.set hv hx hk hs he
  have e : (⟨h1.p, h1.v, h1.X.set i (n', ev)⟩ : Fsh) = ⟨h.p, h.v, h.X.set i (n', ev)⟩ := by rw [hp, hvv, hX, List.set_set]
  rw [e] at r1 r2
  exact ⟨r1, hG.trans r2⟩

def SetTo (c : Chg) (h : Fsh) (i : Nat) (n : Nd) (ev : Value) (w w' : World) : Prop := Fs ⟨h.p, h.v, h.X.set i (setNd c n, ev)⟩ w' ∧ Grew h ⟨h.p, h.v, h.X.set i (setNd c n, ev)⟩ w w'
theorem SetTo.below {c : Chg} {h : Fsh} {i : Nat} {n : Nd} {ev : Value} {w w1 w2 : World} (H : SetTo c h i n ev w w1) (hb : Below w1.heap.size w1 w2) : SetTo c h i n ev w w2 := ⟨H.1.keep hb, H.2.trans (Grew.of_below hb)⟩
theorem setTo_one {c : Chg} {h : Fsh} {w : World} (H : Fs h w) {g cap : Nat} (hv : h.v = .slice (some ⟨g, 0, none⟩) h.X.length cap) {i : Nat} {n : Nd} {ev : Value} (hx : h.X[i]? = some (n, ev)) {k : Nat} (hk : k < 17) {u : Value} (hs : (setNd c n).cells ev = (n.cells ev).set k u) (o : Obj) :
    SetTo c h i n ev w ((w.setCell ⟨g, i * 17 + k, none⟩ u).alloc o) :=
  SetTo.below (H.set hv hx hk hs (setNd_ents c n)) ((Below.refl _ _).alloc (Nat.le_refl _) _)
theorem setTo_two {c : Chg} {h : Fsh} {w : World} (H : Fs h w) {g cap : Nat} (hv : h.v = .slice (some ⟨g, 0, none⟩) h.X.length cap) {i : Nat} {n n1 : Nd} {ev : Value} (hx : h.X[i]? = some (n, ev)) {k l : Nat} (hk : k < 17) (hl : l < 17) {u u2 : Value} (hs1 : n1.cells ev = (n.cells ev).set k u) (he : n1.ents = n.ents) (hs : (setNd c n).cells ev = (n1.cells ev).set l u2) :
    SetTo c h i n ev w ((w.setCell ⟨g, i * 17 + k, none⟩ u).setCell ⟨g, i * 17 + l, none⟩ u2) := by
  obtain ⟨r1, r2⟩ := H.set hv hx hk hs1 he
  exact set_end r1 r2 rfl rfl (by show h.v = _; rw [hv]; show _ = Value.slice _ (h.X.set i _).length _; rw [List.length_set]) hx rfl hl hs (by rw [setNd_ents, he])
theorem below_ad (w : World) (o : Obj) : Below w.heap.size w (w.alloc o).drew := ((Below.refl _ _).alloc (Nat.le_refl _) _).drew

theorem set_owner {c : Chg} {h : Fsh} {w : World} (H : Fs h w) {g cap : Nat} (hv : h.v = .slice (some ⟨g, 0, none⟩) h.X.length cap) {i : Nat} {n : Nd} {ev : Value} (hx : h.X[i]? = some (n, ev)) (hk : c.kind = 5) {a b : Int} (ha : maxI c.a 0 = a) (hb : maxI c.b 0 = b) (o : Obj) :
    SetTo c h i n ev w (((w.setCell ⟨g, i * 17 + 4, none⟩ (.int .i64 a)).setCell ⟨g, i * 17 + 5, none⟩ (.int .i64 b)).alloc o).drew := by
  have r := setTo_two (c := c) H hv hx (n1 := { n with uid := a }) (k := 4) (l := 5) (by omega) (by omega) (u := .int .i64 a) (u2 := .int .i64 b) rfl rfl (by unfold setNd; rw [if_neg (by omega), if_pos hk, ha, hb]; rfl)
  exact r.below (below_ad _ _)
theorem set_time {c : Chg} {h : Fsh} {w : World} (H : Fs h w) {g cap : Nat} (hv : h.v = .slice (some ⟨g, 0, none⟩) h.X.length cap) {i : Nat} {n : Nd} {ev : Value} (hx : h.X[i]? = some (n, ev)) {k : Nat} (hk : k < 17) {u : Value} (hs : (setNd c n).cells ev = (n.cells ev).set k u) (o : Obj) :
    SetTo c h i n ev w ((w.setCell ⟨g, i * 17 + k, none⟩ u).alloc o).drew :=
  SetTo.below (H.set hv hx hk hs (setNd_ents c n)) (below_ad _ _)

set_option maxRecDepth 100000 in
set_option maxHeartbeats 4000000 in
theorem set_any (h : Fsh) (g cap i : Nat) (n : Nd) (ev : Value) (c : Chg) (w : World) (H : Fs h w) (hv : h.v = .slice (some ⟨g, 0, none⟩) h.X.length cap) (hx : h.X[i]? = some (n, ev)) (hc : c.kind = 4 ∨ c.kind = 5 ∨ (c.kind = 6 ∧ 0 ≤ c.a ∧ c.a ≤ 2) ∨ c.kind = 8) :
    Calls Tryz.prog 132 #[.pointer (some ⟨g, i * 17, none⟩), chgV c] w fun e w' => e = .returned (.tuple #[]) ∧ SetTo c h i n ev w w' := by
  have hgl : g < w.heap.size := H.lt (.inr (.inl (by rw [hv]; rfl)))
  have fz := H.frozen_node hv
  have ca : ∀ k u, (nc (n, ev))[k]? = some u → w.cell? ⟨g, i * 17 + k, none⟩ = some u := fun k u hu => (H.at_node hv hx (show k < 17 from by have := (List.getElem?_eq_some_iff.1 hu).1; rwa [nc_len] at this) hu)
  have c3 := ca 3 _ rfl
  have c4 := ca 4 _ rfl
  have c5 := ca 5 _ rfl
  have c9 := ca 9 _ rfl
  have c10 := ca 10 _ rfl
  have c11 := ca 11 _ rfl
  have c13 := ca 13 _ rfl
  have f3 := fz (i * 17 + 3)
  have f4 := fz (i * 17 + 4)
  have f5 := fz (i * 17 + 5)
  have f9 := fz (i * 17 + 9)
  have f10 := fz (i * 17 + 10)
  have f11 := fz (i * 17 + 11)
  have f13 := fz (i * 17 + 13)
  have HH := Lib.hid H
  have HV := Lib.hid hv
  have HX := Lib.hid hx
  clear fz ca hv hx H
  unfold chgV
  rcases hc with hk | hk | ⟨hk, ha0, ha2⟩ | hk
  · clear c4 c5 c9 c10 c11 c13 f4 f5 f9 f10 f11 f13
    go_enter Tryz.func132, Tryz.ntmps132
    go_wp2
    go_end0
    exact ⟨rfl, setTo_one HH.out HV.out HX.out (k := 3) (by omega) (by unfold setNd; rw [if_pos hk, and_mode]; rfl) _⟩
  · clear c3 c9 c10 c11 c13 f3 f9 f10 f11 f13
    go_enter Tryz.func132, Tryz.ntmps132
    go_wp2
    go_region
    all_goals go_wp2
    all_goals go_end0
    all_goals exact ⟨rfl, set_owner HH.out HV.out HX.out hk (by unfold maxI; split <;> omega) (by unfold maxI; split <;> omega) _⟩
  · clear c3 c4 c5 c13 f3 f4 f5 f13
    have hk' : c.kind ≠ 4 := by omega
    have hk5 : c.kind ≠ 5 := by omega
    have hS := Lib.hid (show setNd c n = (if c.a = 0 then { n with t0 := c.n } else if c.a = 1 then { n with t1 := c.n } else { n with t2 := c.n }) from by unfold setNd; rw [if_neg hk', if_neg hk5, if_pos hk])
    clear hk' hk5
    have h3 : c.a = 0 ∨ c.a = 1 ∨ c.a = 2 := by omega
    rcases h3 with ha | ha | ha
    · clear ha0 ha2
      go_enter Tryz.func132, Tryz.ntmps132
      go_wp2
      go_region
      all_goals go_wp2
      all_goals go_end0
      all_goals exact ⟨rfl, set_time HH.out HV.out HX.out (k := 9) (by omega) (by rw [hS.out, if_pos ha]; rfl) _⟩
    · clear ha0 ha2
      go_enter Tryz.func132, Tryz.ntmps132
      go_wp2
      go_region
      all_goals go_wp2
      all_goals go_end0
      all_goals exact ⟨rfl, set_time HH.out HV.out HX.out (k := 10) (by omega) (by rw [hS.out, if_neg (by omega), if_pos ha]; rfl) _⟩
    · clear ha0 ha2
      go_enter Tryz.func132, Tryz.ntmps132
      go_wp2
      go_region
      all_goals go_wp2
      all_goals go_end0
      all_goals exact ⟨rfl, set_time HH.out HV.out HX.out (k := 11) (by omega) (by rw [hS.out, if_neg (by omega), if_neg (by omega)]; rfl) _⟩
  · clear c3 c4 c5 c9 c10 c11 f3 f4 f5 f9 f10 f11
    go_enter Tryz.func132, Tryz.ntmps132
    go_wp2
    go_end0
    exact ⟨rfl, setTo_one HH.out HV.out HX.out (k := 13) (by omega) (by unfold setNd; rw [if_neg (by omega), if_neg (by omega), if_neg (by omega)]; rfl) _⟩
end Go.Proofs.YtknfhphhcnbndaaGreatDoor.V
