/-
  What the reference's wrong returns: what is wrong with a change, by the model. Conditions: at most 1000000 nodes and entries, texts of at most 1000000 bytes; the reference's entries are the model's.
  What the reference's Do has in hand; a refused change. Conditions: at most 1000000 nodes and entries, texts of at most 1000000 bytes.
  A slice of the reference's copied and stored into its box; a store into the copied nodes. Conditions: none.
  What a change that sets something makes, of the model and of the reference's slices. Conditions: none.
  How the list of entries goes with the nodes, where a change makes a node or an entry. Conditions: none.
  A region that draws its order, whose operation number z waits for others and may write what they read: what is said of the world (S) holds till z comes up, and no longer; what waits ahead of z may be taken first under S. Conditions: each law's own.
  The entries copied, lengthened by one and stored into the box. Conditions: none.
-/
import Derived.Test.YtknfhphhcnbndaaGreatDoorKVRefWr0
import Derived.Test.YtknfhphhcnbndaaGreatDoorKVRefWr1
import Derived.Test.YtknfhphhcnbndaaGreatDoorKVRefWr2
import Derived.Test.YtknfhphhcnbndaaGreatDoorKVRefWr3
import Derived.Test.YtknfhphhcnbndaaGreatDoorKVRefWr7
import Derived.Deep.CutBlock
import Derived.Test.YtknfhphhcnbndaaGreatDoorKVRefApp
import Derived.Deep.RegionHeld3
set_option linter.unusedSimpArgs false
set_option linter.unusedVariables false
namespace Go.Proofs.YtknfhphhcnbndaaGreatDoor.V
open Go.RowKit

end Go.Proofs.YtknfhphhcnbndaaGreatDoor.V

namespace Go.Proofs.YtknfhphhcnbndaaGreatDoor.V
open Go.RowKit

theorem But.rs {b : Nat} {w w' : World} (h : But b w w') {M : List Nd} {L : List It} {v : Rv} {arr : Array Value} (hb : w.heap[b]? = some (.cells arr 31 (0, 0))) (H : Rs M L v w) : Rs M L v w' :=
  ⟨h.owns H.hn hb (by decide), h.owns H.hl hb (by decide), h.owns H.hc hb (by decide), h.owns H.hd hb (by decide), h.owns H.ha hb (by decide), h.owns H.hf hb (by decide)⟩
end Go.Proofs.YtknfhphhcnbndaaGreatDoor.V

namespace Go.Proofs.YtknfhphhcnbndaaGreatDoor.V
open Go.RowKit

end Go.Proofs.YtknfhphhcnbndaaGreatDoor.V

namespace Go.Proofs.YtknfhphhcnbndaaGreatDoor.V
open Go.RowKit Go.BigFrame

theorem Rs.drew {M : List Nd} {L : List It} {v : Rv} {w : World} (H : Rs M L v w) : Rs M L v w.drew := H.keep (Below.refl _ _).drew
end Go.Proofs.YtknfhphhcnbndaaGreatDoor.V

namespace Go.Proofs.YtknfhphhcnbndaaGreatDoor.V
open Go.RowKit

end Go.Proofs.YtknfhphhcnbndaaGreatDoor.V

namespace Go.Proofs.YtknfhphhcnbndaaGreatDoor.V
open Go.RowKit

section
variable {P : Program} {ops : Array Oper} {Q : Exit → Act → World → Prop} {md : Region.Mode} {S : World → Prop} {z : Nat}

/-- In whatever order the rest comes up, all is well; S holds behind each operation but z. -/
def Till (P : Program) (md : Region.Mode) (ops : Array Oper) (Q : Exit → Act → World → Prop) (S : World → Prop) (z : Nat) : Nat → Array Bool → Act → World → Prop
  | 0 => fun up a w => Region.ready md ops up = [] ∧ Q .normal a w
  | n + 1 => fun up a w => (Region.ready md ops up = [] → Q .normal a w) ∧ ∀ i, i ∈ Region.ready md ops up → wpOp P ops Q i (fun a' w' => (i ≠ z → S w') ∧ Till P md ops Q S z n (up.setIfInBounds i true) a' w') a w
theorem Till.any : ∀ {n : Nat} {up : Array Bool} {a : Act} {w : World}, Till P md ops Q S z n up a w → wpAny P md ops Q n up a w
  | 0, _, _, _, h => h
  | n + 1, _, _, _, h => ⟨h.1, fun i hi => wpOp_mono (fun _ _ q => Till.any q.2) (h.2 i hi)⟩
theorem Till.region {id : Nat} {a : Act} {w : World} (hm : P.follows .mixedOrders = true) (hS : S w.drew) (h : S w.drew → Till P .any ops Q S z ops.size (Array.replicate ops.size false) a w.drew) : (Code.region id ops true).wp P Q a w :=
  wp_region_any hm (Till.any (h hS))
/-- Does z wait for i? -/
def waitsB (md : Region.Mode) (ops : Array Oper) (z i : Nat) : Bool := match ops[z]? with
  | some o => o.after.any fun e => Region.binds md e && e.on == i
  | none => false
theorem waits_not {i j : Nat} {up : Array Bool} (hz : waitsB md ops z i = true) (hi : i ∈ Region.ready md ops up) (hj : j ∈ Region.ready md ops up) : j ≠ z := by
  rintro rfl
  obtain ⟨_, o, ho, hall⟩ := mem_ready.1 hj
  unfold waitsB at hz
  rw [ho] at hz
  obtain ⟨e, he, hb⟩ := Array.any_eq_true'.1 hz
  simp only [Bool.and_eq_true, beq_iff_eq] at hb
  have h1 := hall e he hb.1
  rw [hb.2] at h1
  have h0 := (mem_ready.1 hi).1
  rcases Nat.lt_or_ge i up.size with q | q
  · simp [q] at h0 h1
    rw [h0] at h1
    cases h1
  · simp [Array.getElem?_eq_none q] at h1
theorem Till.front {i : Nat} {oi : Oper} {v : Value} (hi : ops[i]? = some oi) (hsel : ∀ (j : Nat) (o : Oper) cs b, ops[j]? = some o → o.op ≠ .select cs b) (hQ : ∀ c a w, Q (.panic c) (a.put oi.dst v) w → Q (.panic c) a w) (hz : waitsB md ops z i = true) :
    ∀ (n : Nat) (up : Array Bool) (a : Act) (w : World), (∀ j oj, ops[j]? = some oj → j ≠ i → up.getD j true = false → (∀ e ∈ oj.after, Region.binds md e = true → e.on ≠ i) → oi.apart ops oj = true) → i ∈ Region.ready md ops up → YieldsIf P ops S oi v a → S w →
      Till P md ops Q S z n (up.setIfInBounds i true) (a.put oi.dst v) w → Till P md ops Q S z (n + 1) up a w := by
  have one : ∀ {K : Act → World → Prop} {a : Act} {w : World}, YieldsIf P ops S oi v a → S w → K (a.put oi.dst v) w → wpOp P ops Q i K a w := fun hy hS hK => hy.wpOp hi hS hK
  have none : ∀ {up : Array Bool} {C : Prop}, i ∈ Region.ready md ops up → Region.ready md ops up = [] → C := fun hr h => by rw [h] at hr; cases hr
  intro n
  induction n with
  | zero =>
    intro up a w _ hr hy hS T
    refine ⟨none hr, fun j hj => ?_⟩
    rcases Classical.em (j = i) with e | e
    · rw [e]; exact one hy hS ⟨fun _ => hS, T⟩
    · have m := ready_mono (i := i) hj e
      rw [T.1] at m
      cases m
  | succ n ih =>
    intro up a w hfree hr hy hS T
    refine ⟨none hr, fun j hj => ?_⟩
    rcases Classical.em (j = i) with e | e
    · rw [e]; exact one hy hS ⟨fun _ => hS, T⟩
    · have hjz : j ≠ z := waits_not hz hr hj
      obtain ⟨hup, oj, hoj, hall⟩ := mem_ready.1 hj
      have hun : ∀ d ∈ oj.after, Region.binds md d = true → d.on ≠ i := fun d hd hb q => by
        have h1 := hall d hd hb
        rw [q] at h1
        have h0 := (mem_ready.1 hr).1
        rcases Nat.lt_or_ge i up.size with g | g
        · simp [g] at h0 h1
          rw [h0] at h1
          cases h1
        · simp [Array.getElem?_eq_none g] at h1
      have step := wpOp_putIf hoj (hfree j oj hoj e hup hun) (fun cs b => hsel i oi cs b hi) (fun cs b => hsel j oj cs b hoj) hQ hy (T.2 j (ready_mono hj e))
      refine wpOp_mono (fun a' w' q => ⟨fun _ => q.2.1 hjz, ih _ a' w' (fun k ok hk hki hku hkn => hfree k ok hk hki ?_ hkn) (ready_mono hr (Ne.symm e)) q.1 (q.2.1 hjz) ?_⟩) step
      · rcases Classical.em (j = k) with g | g
        · rw [← g]; exact hup
        · rw [getD_set_ne true g] at hku; exact hku
      · rw [Array.setIfInBounds_comm _ _ e]
        exact q.2.2
theorem Till.take {i : Nat} {oi : Oper} {v : Value} {n : Nat} {up : Array Bool} {a : Act} {w : World} (hi : ops[i]? = some oi) (hs : Region.noSelect ops = true) (hf : Region.free md ops up i = true) (hr : (Region.ready md ops up).contains i = true) (hz : waitsB md ops z i = true)
    (hQ : ∀ c a w, Q (.panic c) (a.put oi.dst v) w → Q (.panic c) a w) (hy : YieldsIf P ops S oi v a) (hS : S w) (h : Till P md ops Q S z n (up.setIfInBounds i true) (a.put oi.dst v) w) : Till P md ops Q S z (n + 1) up a w :=
  Till.front hi (Region.noSelect_spec hs) hQ hz n up a w (Region.free_spec hi hf) (by simpa using hr) hy hS h
theorem Till.next {i : Nat} {o : Oper} {n : Nat} {up : Array Bool} {a : Act} {w : World} (hr : Region.ready md ops up = [i]) (ho : ops[i]? = some o)
    (h : ∀ K : Act → World → Prop, Shut (∀ a w, (i ≠ z → S w) → Till P md ops Q S z n (up.setIfInBounds i true) a w → K a w) → if Region.wanted o (yielded ops a.tmps) = true then Oper.wp P o a w K Q else K (a.put o.dst undef) w) : Till P md ops Q S z (n + 1) up a w := by
  refine ⟨fun e => absurd e (by rw [hr]; exact List.cons_ne_nil _ _), fun j hj => ?_⟩
  rw [hr] at hj
  obtain rfl := List.mem_singleton.1 hj
  exact wpOp_step ho fun K hK => h K (fun a w hS hT => hK a w ⟨hS, hT⟩)
theorem Till.done {n : Nat} {up : Array Bool} {a : Act} {w : World} (hr : Region.ready md ops up = []) (h : Q .normal a w) : Till P md ops Q S z n up a w := by
  match n with
  | 0 => exact And.intro hr h
  | n + 1 =>
    refine ⟨fun _ => h, fun i hi => ?_⟩
    rw [hr] at hi
    cases hi
end
end Go.Proofs.YtknfhphhcnbndaaGreatDoor.V

namespace Go.Proofs.YtknfhphhcnbndaaGreatDoor.V
open Go.RowKit

section
variable {P : Program} {ops : Array Oper} {Q : Exit → Act → World → Prop} {md : Region.Mode} {S : World → Prop} {z : Nat}
theorem Till.two {i j : Nat} {o o' : Oper} {n : Nat} {up : Array Bool} {a : Act} {w : World} (hr : Region.ready md ops up = [i, j]) (ho : ops[i]? = some o) (ho' : ops[j]? = some o')
    (h : ∀ K : Act → World → Prop, Shut (∀ a w, (i ≠ z → S w) → Till P md ops Q S z n (up.setIfInBounds i true) a w → K a w) → if Region.wanted o (yielded ops a.tmps) = true then Oper.wp P o a w K Q else K (a.put o.dst undef) w)
    (h' : ∀ K : Act → World → Prop, Shut (∀ a w, (j ≠ z → S w) → Till P md ops Q S z n (up.setIfInBounds j true) a w → K a w) → if Region.wanted o' (yielded ops a.tmps) = true then Oper.wp P o' a w K Q else K (a.put o'.dst undef) w) : Till P md ops Q S z (n + 1) up a w := by
  refine ⟨fun e => absurd e (by rw [hr]; exact List.cons_ne_nil _ _), fun k hk => ?_⟩
  rw [hr] at hk
  have hk2 : k = i ∨ k = j := by simpa using hk
  rcases hk2 with q | q
  · rw [q]; exact wpOp_step ho fun K hK => h K (fun a w hS hT => hK a w ⟨hS, hT⟩)
  · rw [q]; exact wpOp_step ho' fun K hK => h' K (fun a w hS hT => hK a w ⟨hS, hT⟩)
end
end Go.Proofs.YtknfhphhcnbndaaGreatDoor.V
