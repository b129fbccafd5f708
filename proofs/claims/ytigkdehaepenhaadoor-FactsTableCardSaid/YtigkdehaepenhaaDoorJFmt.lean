/-
  What facts.Format returns: what a format tells of a node that there is, an error of one that there isn't. Conditions: what Node and Link return is known; a format of at most 1000 bytes, texts of at most 60000; the tables lie.
-/
import Derived.Test.YtigkdehaepenhaaDoorJWrit
set_option linter.unusedSimpArgs false
set_option linter.unusedVariables false
namespace Go.Proofs.YtigkdehaepenhaaDoor.J
open Go.Proofs.YtigkdehaepenhaaDoor.B
open Go.RowKit

theorem sizeNode : (Tryd.prog.info? 46).map (·.size) = some 13 := by kernel_rfl
set_option maxRecDepth 100000 in
set_option maxHeartbeats 8000000 in
theorem formatOk_any (fp : Value) (id le : Int) (n : P.Nv) (nm lt f : ByteArray) (qf : ByteArray → ByteArray) (w : World)
    (HN : ∀ X : World, Below w.heap.size w X → Calls Tryd.prog 15 #[fp, .int .i64 id] X fun e w' => e = .returned (.tuple #[P.nodeV n, .int .i64 0]) ∧ Below X.heap.size X w')
    (HL : ∀ X : World, Below w.heap.size w X → Calls Tryd.prog 16 #[fp, .int .i64 id] X fun e w' => e = .returned (.tuple #[.string lt, .int .i64 le]) ∧ Below X.heap.size X w')
    (ht : FTab w) (hN : NumJ n) (hq : (78 : UInt8) ∈ f.data.toList → QJ qf w) (hn : nm.size ≤ 60000) (hl : lt.size ≤ 60000) (hf : f.size ≤ 1000) (hqs : (quotB qf n.kind nm lt).size ≤ 900000) :
    Calls Tryd.prog 8 #[fp, .int .i64 id, .string nm, .string f] w fun e w' => e = .returned (.tuple #[.string (txt (fmtJ n nm.data.toList (quotB qf n.kind nm lt).data.toList f.data.toList)), .int .i64 0]) ∧ Below w.heap.size w w' := by
  have HNd := Lib.hid HN
  have HLk := Lib.hid HL
  have HWr := Lib.hid (fun (W : World) (hb : Below w.heap.size w W) => written_any n nm lt qf f W (ht.keep hb) hN (fun e => (hq e).keep hb) hn hl hf hqs)
  clear HN HL ht hN hq hqs
  generalize txt (fmtJ n nm.data.toList (quotB qf n.kind nm lt).data.toList f.data.toList) = R at HWr ⊢
  unfold P.nodeV at HNd
  unfold subV subC at HWr
  go_enter Tryd.func8, Tryd.ntmps8
  go_upto_region 1 with fail
  go_upto_region 2 with (first
    | (go_at_call 15; refine (HNd.out _ (Below.refl _ _)).mono ?_; rintro e w2 ⟨rfl, hb2⟩; have HB2 := Lib.hid hb2; clear hb2)
    | (refine wpList_store_row rfl 46 (.tmp 10) (.tmp 18) rfl w2.heap.size #[.int .i64 n.dev, .int .i64 n.ino, .int .i64 n.kind, .int .i64 n.mode, .int .i64 n.uid, .int .i64 n.gid, .int .i64 n.size, .int .i64 n.blocks, .int .i64 n.links, .int .i64 n.ta, .int .i64 n.tb, .int .i64 n.tc, .string n.target] rfl rfl 46 _ (heap_alloc_new _ _) sizeNode rfl (ndC_one n) ?_; rw [World.setRow_alloc_new]))
  have HX3 := Lib.hid (heap_alloc_new w2 (.cells #[.int .i64 n.dev, .int .i64 n.ino, .int .i64 n.kind, .int .i64 n.mode, .int .i64 n.uid, .int .i64 n.gid, .int .i64 n.size, .int .i64 n.blocks, .int .i64 n.links, .int .i64 n.ta, .int .i64 n.tb, .int .i64 n.tc, .string n.target] 46))
  have HB3 := Lib.hid (show Below w.heap.size w (w2.alloc (.cells #[.int .i64 n.dev, .int .i64 n.ino, .int .i64 n.kind, .int .i64 n.mode, .int .i64 n.uid, .int .i64 n.gid, .int .i64 n.size, .int .i64 n.blocks, .int .i64 n.links, .int .i64 n.ta, .int .i64 n.tb, .int .i64 n.tc, .string n.target] 46)) from HB2.out.alloc HB2.out.size _)
  generalize w2.alloc (.cells _ 46) = w3 at HX3 HB3 ⊢
  generalize w2.heap.size = B2 at HX3 ⊢
  clear HB2 HNd
  go_upto_region 5 with (go_at_call 16; refine (HLk.out _ (by with_reducible exact HB3.out)).mono ?_; rintro e w4 ⟨rfl, hb4⟩; have HB4 := Lib.hid (below_two HB3.out hb4); have HX4 := Lib.hid ((hb4.block _ (heap_lt HX3.out)).trans HX3.out); clear hb4)
  clear HX3 HB3 HLk
  go_wp2_with (refine wpList_load_row rfl 46 (.tmp 10) rfl B2 rfl 46 _ (0, 0) _ HX4.out Tryd.underlying46 rfl sizeNode ?_)
  refine (HWr.out _ (by with_reducible exact HB4.out)).mono ?_
  rintro e w5 ⟨rfl, hb5⟩
  have HB5 := Lib.hid (below_two HB4.out hb5)
  clear hb5
  go_wp2_with fail
  go_ret2
  exact ⟨rfl, HB5.out⟩
set_option maxRecDepth 100000 in
set_option maxHeartbeats 4000000 in
theorem formatNo_any (fp : Value) (id er : Int) (n : P.Nv) (nm f : ByteArray) (w : World) (he : er ≠ 0)
    (HN : ∀ X : World, Below w.heap.size w X → Calls Tryd.prog 15 #[fp, .int .i64 id] X fun e w' => e = .returned (.tuple #[P.nodeV n, .int .i64 er]) ∧ Below X.heap.size X w') :
    Calls Tryd.prog 8 #[fp, .int .i64 id, .string nm, .string f] w fun e w' => e = .returned (.tuple #[.string ⟨#[]⟩, .int .i64 er]) ∧ Below w.heap.size w w' := by
  have HNd := Lib.hid HN
  have d0 : (er != 0) = true := by simpa using he
  clear HN he
  unfold P.nodeV at HNd
  go_enter Tryd.func8, Tryd.ntmps8
  go_upto_region 1 with fail
  go_upto_region 2 with (first
    | (go_at_call 15; refine (HNd.out _ (Below.refl _ _)).mono ?_; rintro e w2 ⟨rfl, hb2⟩; have HB2 := Lib.hid hb2; clear hb2)
    | (refine wpList_store_row rfl 46 (.tmp 10) (.tmp 18) rfl w2.heap.size #[.int .i64 n.dev, .int .i64 n.ino, .int .i64 n.kind, .int .i64 n.mode, .int .i64 n.uid, .int .i64 n.gid, .int .i64 n.size, .int .i64 n.blocks, .int .i64 n.links, .int .i64 n.ta, .int .i64 n.tb, .int .i64 n.tc, .string n.target] rfl rfl 46 _ (heap_alloc_new _ _) sizeNode rfl (ndC_one n) ?_; rw [World.setRow_alloc_new]))
  have HB3 := Lib.hid (show Below w.heap.size w (w2.alloc (.cells #[.int .i64 n.dev, .int .i64 n.ino, .int .i64 n.kind, .int .i64 n.mode, .int .i64 n.uid, .int .i64 n.gid, .int .i64 n.size, .int .i64 n.blocks, .int .i64 n.links, .int .i64 n.ta, .int .i64 n.tb, .int .i64 n.tc, .string n.target] 46)) from HB2.out.alloc HB2.out.size _)
  generalize w2.alloc (.cells _ 46) = w3 at HB3 ⊢
  clear HB2 HNd
  go_wp2_with fail
  go_ret2
  exact ⟨rfl, HB3.out⟩
end Go.Proofs.YtigkdehaepenhaaDoor.J
