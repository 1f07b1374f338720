/-
  RecordReads: the end of its walk.
-/
import Derived.Test.YtkohlhnkaklnpaaRdB
namespace Go.Proofs.Ytkohlhnkaklnpaa
open Go.RowKit Go.Shelf
attribute [local go_sem] Oper.semAt_some
set_option maxRecDepth 100000
set_option maxHeartbeats 8000000 in
theorem seg40 {w0 wA W : World} {stop : Int} {A : Act} {vk : Value} {nk D0 D1 : Nat} {K : Nat → Prop} (hst : St w0 wA stop) (hb : Below wA.heap.size wA W) (hk : Kz W wA.heap.size nk K vk)
    (hD0 : W.heap[D0]? = some (.deferred (some []))) (hD1 : W.heap[D1]? = some (.deferred (some []))) (hD : D0 ≠ D1) (g0 : wA.heap.size ≤ D0) (g1 : wA.heap.size ≤ D1)
    (hs : A.tmps.size = 464) (hd : A.defers = [mark D1, mark D0]) (h4 : A.tmps.getD 4 undef = .pointer (some ⟨w0.heap.size + 1, 0, none⟩)) (h5 : A.tmps.getD 5 undef = vk) :
    Code.wp Try.prog (tailN 40 body16) (QR w0) A W := by
  obtain ⟨s, eA, hsk⟩ := act_open A _ hs hd
  rw [hsk] at h4 h5
  rw [eA, h4, h5]
  clear eA hsk
  conv => arg 2; whnf
  have hres := hst.res hb
  have hsz := hst.2.2.2
  have hlk := looks_kz (fun hs' h => looks_any wA.heap.size vk hs' W h) hk
  have c1 : W.cell? ⟨w0.heap.size + 1, 0, none⟩ = some (.bool false) := (cell_of_row _ _ 0 _ 4 (0, 0) hres).trans rfl
  have f1 : W.frozen? ⟨w0.heap.size + 1, 0, none⟩ = false := frozen_of_row _ _ 0 _ 4 hres
  have HB := hide (hst.down hb)
  have HD := hide (And.intro hD0 (And.intro hD1 (And.intro hD (And.intro g0 g1))))
  have HRES := hide hres
  have HSZ := hide hsz
  clear hD0 hD1 hD g0 g1 hs hd h4 h5 hres hk hb hst hsz
  go_wp2_with fail
  refine hlk.mono ?_
  rintro e W1 ⟨rfl, d, rfl⟩
  go_wp2_with fail
  obtain ⟨hD0, hD1, hD, g0, g1⟩ := HD.out
  have hsz := HSZ.out
  have hset := heap_setCell_same (W.drewN d) (w0.heap.size + 1) 0 _ 4 (.bool true) HRES.out
  have hX1 : ((W.drewN d).setCell ⟨w0.heap.size + 1, 0, none⟩ (.bool true)).heap[D1]? = some (.deferred (some [])) := (heap_setCell_other (W.drewN d) ⟨w0.heap.size + 1, 0, none⟩ D1 _ (by simp; omega)).trans hD1
  have hX0 : (((W.drewN d).setCell ⟨w0.heap.size + 1, 0, none⟩ (.bool true)).putObj D1 (.deferred none)).heap[D0]? = some (.deferred (some [])) := (World.putObj_heap_other hD).trans ((heap_setCell_other (W.drewN d) ⟨w0.heap.size + 1, 0, none⟩ D0 _ (by simp; omega)).trans hD0)
  have l1 := lt_of_block hX1
  have l0 := lt_of_block hX0
  have hb1 : Below w0.heap.size w0 ((W.drewN d).setCell ⟨w0.heap.size + 1, 0, none⟩ (.bool true)) := (HB.out.trans ((below_dn W d).mono HB.out.size)).setCell (by simp) _
  have hb2 := hb1.grown (grownBy_putObj' _ D1 (.deferred none)) hb1.size (fun k e => by cases e; omega)
  have hb3 := hb2.grown (grownBy_putObj' _ D0 (.deferred none)) hb2.size (fun k e => by cases e; omega)
  show bodyPostM Fence.wide 6 Try.prog Try.f16 (Post w0) .ret _ _
  refine ⟨by simp, .inl ⟨_, _, rfl, run_takeDeferred hX1, ?_⟩⟩
  refine ⟨by simp, .inl ⟨_, _, rfl, run_takeDeferred hX0, ?_⟩⟩
  have hc5 : ((((W.drewN d).setCell ⟨w0.heap.size + 1, 0, none⟩ (.bool true)).putObj D1 (.deferred none)).putObj D0 (.deferred none)).cell? ⟨w0.heap.size + 1, 0, none⟩ = some (.bool true) := by
    rw [cell_of_row _ (w0.heap.size + 1) 0 #[.bool true] 4 (0, 0) ((World.putObj_heap_other (by omega)).trans ((World.putObj_heap_other (by omega)).trans (by simpa using hset)))]
    rfl
  refine ⟨.bool true, ?_, rfl, hb3⟩
  simp [results, go_sem, hc5]
end Go.Proofs.Ytkohlhnkaklnpaa
