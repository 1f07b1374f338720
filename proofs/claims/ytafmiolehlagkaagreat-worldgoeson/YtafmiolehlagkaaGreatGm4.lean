import Derived.Test.YtafmiolehlagkaaGreatGm3
import Derived.Test.YtafmiolehlagkaaGreatPLent
import Derived.Laws.BytesArg
/-
  World: what the document's example reckons with.
-/
namespace Go.Proofs.YtafmiolehlagkaaGreat
open Go.RowKit
set_option maxRecDepth 100000
theorem usual_may : mayB usualK := by
  refine ⟨by decide, by decide, fun k hk => ?_, ?_⟩
  · simp only [usualK, List.mem_cons, List.not_mem_nil, or_false] at hk
    rcases hk with rfl | rfl | rfl | rfl
    · refine ⟨by decide, fun x hx => ?_, by decide⟩
      simp only [List.mem_cons, List.not_mem_nil, or_false] at hx
      rcases hx with rfl | rfl
      · exact ⟨by decide, by decide, by decide, by decide⟩
      · exact ⟨by decide, by decide, by decide, by decide⟩
    · refine ⟨by decide, fun x hx => ?_, by decide⟩
      simp only [List.mem_cons, List.not_mem_nil, or_false] at hx
      rcases hx with rfl
      exact ⟨by decide, by decide, by decide, by decide⟩
    · exact ⟨by decide, fun x hx => (by cases hx), by decide⟩
    · refine ⟨by decide, fun x hx => ?_, by decide⟩
      simp only [List.mem_cons, List.not_mem_nil, or_false] at hx
      rcases hx with rfl | rfl | rfl | rfl
      · exact ⟨by decide, by decide, by decide, by decide⟩
      · exact ⟨by decide, by decide, by decide, by decide⟩
      · exact ⟨by decide, by decide, by decide, by decide⟩
      · exact ⟨by decide, by decide, by decide, by decide⟩
  · refine ⟨fun x hx => ?_, by decide⟩
    simp only [usualK, List.map_cons, List.map_nil, List.mem_cons, List.not_mem_nil, or_false] at hx
    rcases hx with rfl | rfl | rfl | rfl
    · exact ⟨by decide, by decide, by decide, by decide⟩
    · exact ⟨by decide, by decide, by decide, by decide⟩
    · exact ⟨by decide, by decide, by decide, by decide⟩
    · exact ⟨by decide, by decide, by decide, by decide⟩
theorem sh_come (a b : Option Addr) (c d : Nat) : comeL usualK 0 [(2, a, 1, c), (1, b, 2, d)] = 0 := by kernel_rfl
theorem sh_none : comeL usualK 0 [] = 0 := rfl
theorem sh_add : comeS usualK 0 3 0 = 0 := rfl
theorem sh_has : comeS usualK 8 3 0 = 61 := rfl
theorem sh_set (a b : Option Addr) (c d : Nat) : setOf [(2, a, 1, c), (1, b, 2, d)] = 6 := by kernel_rfl
theorem sh_sum : fsum usualK 8 1 = 0 := rfl
theorem uv_one {n : Nat} (h : n < 128) : Lib.uvarint n = [UInt8.ofNat n] := Lib.uvarint_small h
theorem sh_iv : Pak.Rw.ivar 0 = [0] ∧ Pak.Rw.ivar 1 = [2] := by
  unfold Pak.Rw.ivar
  have e0 : Lib.zigzag 0 = 0 := by decide
  have e1 : Lib.zigzag 1 = 2 := by decide
  rw [e0, e1, uv_one (by omega), uv_one (by omega)]
  decide
theorem sh_bytes : Pak.Rw.rowB (zi [1, 1]) ++ Pak.Rw.rowB (zi [0]) ++ wrB 8 (partsL usualK 8 1 []) = [2, 0, 2, 2, 1, 0, 0, 8] := by
  have h8 : wrB 8 (partsL usualK 8 1 []) = [8] := by
    have : partsL usualK 8 1 [] = [(3, [])] := rfl
    rw [this]
    unfold wrB
    rw [uv_one (by omega)]
    rfl
  obtain ⟨i0, i1⟩ := sh_iv
  have z1 : zi [1, 1] = [1, 1] := rfl
  have z0 : zi [0] = [0] := rfl
  have w0 : wrap64 0 = 0 := by kernel_rfl
  have hr1 : Pak.Rw.rowB [1, 1] = [2, 0, 2, 2] := by
    simp [Pak.Rw.rowB, Pak.Rw.best, Pak.Rw.formB, Pak.Rw.bodyTo, Pak.Rw.entry, Pak.Rw.runsB, Pak.Rw.runsTo, Pak.Rw.ends, i0, i1, w0, uv_one]
  have hr0 : Pak.Rw.rowB [0] = [1, 0, 0] := by
    simp [Pak.Rw.rowB, Pak.Rw.best, Pak.Rw.formB, Pak.Rw.bodyTo, Pak.Rw.entry, Pak.Rw.runsB, Pak.Rw.runsTo, Pak.Rw.ends, i0, uv_one]
  rw [h8, z1, z0, hr1, hr0]
  rfl
end Go.Proofs.YtafmiolehlagkaaGreat

namespace Go.Proofs.YtafmiolehlagkaaGreat.Pak
open Go.RowKit
set_option maxRecDepth 100000

/-- string(b). -/
theorem conv_row (w : World) (a : Addr) (c : Nat) (l : List UInt8) (hcell : ∀ j (hj : j < l.length), w.cell? (a.add j) = some (.int .u8 (l[j]).toNat)) :
    (convert 51 9 (.slice (some a) l.length c)).run Tryz.prog w = .ok (.string ⟨l.toArray⟩) w := by
  have hl : (loadCells a l.length).run Tryz.prog w = .ok ((l.map fun b => (b.toNat : Int)).map (Value.int .u8)).toArray w := by
    have := run_loadCells_list (P := Tryz.prog) w a ((l.map fun b => (b.toNat : Int)).map (Value.int .u8)) (fun j v hj => by
      simp only [List.getElem?_map, Option.map_eq_some_iff] at hj
      obtain ⟨_, ⟨b, hb, rfl⟩, rfl⟩ := hj
      obtain ⟨hjl, rfl⟩ := List.getElem?_eq_some_iff.1 hb
      exact hcell j hjl)
    simpa using this
  rw [run_convert_bytes_string w 51 9 5 _ _ c Tryz.underlying51 Tryz.underlying5 Tryz.underlying9, run_bytesToString w _ _ c _ hl, foldl_push_bytes]
  have e : ((l.map fun b => (b.toNat : Int)).map fun n => UInt8.ofNat n.toNat) = l := by
    rw [List.map_map]
    conv => rhs; rw [← List.map_id l]
    apply List.map_congr_left
    intro b _
    simp
  rw [e]
  simp [ByteArray.empty, ByteArray.emptyWithCapacity]
  rfl
theorem conv_bs {w : World} {v : Value} {l : List UInt8} (h : Bs w v l) : (convert 51 9 v).run Tryz.prog w = .ok (.string ⟨l.toArray⟩) w := by
  obtain ⟨ao, c, rfl, h1, h2, h3⟩ := h
  cases ao with
  | none =>
    cases l with
    | nil =>
      rw [run_convert_bytes_nil w 51 5 Tryz.underlying51 Tryz.underlying5 _ c 9 Tryz.underlying9]
      rfl
    | cons b l =>
      obtain ⟨_, _, e, _⟩ := h3 0 (by simp)
      cases e
  | some a =>
    refine conv_row w a c l fun j hj => ?_
    obtain ⟨g, o, e, hc⟩ := h3 j hj
    cases e
    rw [show (⟨g, o, none⟩ : Addr).add j = ⟨g, o + j, none⟩ by simp [Addr.add]]
    exact hc

end Go.Proofs.YtafmiolehlagkaaGreat.Pak

/-
  World: the document's example.
-/
namespace Go.Proofs.YtafmiolehlagkaaGreat
open Go.RowKit
set_option maxRecDepth 100000
/-- A world, and a block of nobody's that stays. -/
theorem wk_at {own own' : Nat → Nat} {w w' : World} {k : Nat} {o : Obj} (h : Wk own own' w w') (hk : w.heap[k]? = some o) (h0 : own k = 0) : w'.heap[k]? = some o ∧ own' k = 0 := ⟨h.mv.at hk (fun e => e h0), (h.1 k (lt_of_block hk)).trans h0⟩
theorem iz_lit {w : World} {g : Nat} {l : List Int} {o : Array Value} (h : w.heap[g]? = some (.cells o 2 (0, 0))) (hl : l.length ≤ 100) (ho : ∀ j (hj : j < l.length), o[j]? = some (.int .i64 l[j])) : Iz w (.slice (some ⟨g, 0, none⟩) l.length l.length) l := by
  refine ⟨_, _, rfl, Nat.le_refl _, by unfold maxLen; omega, fun j hj => ⟨g, 0, rfl, ?_⟩⟩
  rw [Nat.zero_add, cell_of_row w g j _ 2 (0, 0) h]
  exact ho j hj
/-- What three lists are that were laid one behind the other. -/
theorem sh_parts {w2 W : World} (hW : W = ((w2.alloc (.cells #[.int .i64 7] 2)).alloc (.cells #[.int .i64 1, .int .i64 2] 2)).alloc (.cells #[.int .i64 2, .slice (some ⟨w2.heap.size, 0, none⟩) 1 1, .int .i64 1, .slice (some ⟨w2.heap.size + 1, 0, none⟩) 2 2] 32)) :
    Iz W (.slice (some ⟨w2.heap.size, 0, none⟩) 1 1) [7] ∧ Iz W (.slice (some ⟨w2.heap.size + 1, 0, none⟩) 2 2) [1, 2] ∧ Rp W (.slice (some ⟨w2.heap.size + 1 + 1, 0, none⟩) 2 2) [(2, some ⟨w2.heap.size, 0, none⟩, 1, 1), (1, some ⟨w2.heap.size + 1, 0, none⟩, 2, 2)] ∧ Below w2.heap.size w2 W ∧ W.heap.size = w2.heap.size + 3 := by
  have e1 : W.heap[w2.heap.size]? = some (.cells #[.int .i64 7] 2 (0, 0)) := by
    rw [hW]
    exact ((below_alloc _ _).block _ (by simp; omega)).trans (((below_alloc _ _).block _ (by simp)).trans (heap_alloc_new w2 _))
  have e2 : W.heap[w2.heap.size + 1]? = some (.cells #[.int .i64 1, .int .i64 2] 2 (0, 0)) := by
    rw [hW]
    refine ((below_alloc _ _).block _ (by simp)).trans ?_
    have := heap_alloc_new (w2.alloc (.cells #[.int .i64 7] 2)) (.cells #[.int .i64 1, .int .i64 2] 2)
    simpa using this
  have e3 : W.heap[w2.heap.size + 1 + 1]? = some (.cells #[.int .i64 2, .slice (some ⟨w2.heap.size, 0, none⟩) 1 1, .int .i64 1, .slice (some ⟨w2.heap.size + 1, 0, none⟩) 2 2] 32 (0, 0)) := by
    have := heap_alloc_new ((w2.alloc (.cells #[.int .i64 7] 2)).alloc (.cells #[.int .i64 1, .int .i64 2] 2)) (.cells #[.int .i64 2, .slice (some ⟨w2.heap.size, 0, none⟩) 1 1, .int .i64 1, .slice (some ⟨w2.heap.size + 1, 0, none⟩) 2 2] 32)
    rw [hW]
    simpa using this
  refine ⟨?_, ?_, ?_, ?_, ?_⟩
  · exact iz_lit (l := [7]) e1 (by decide) (fun j hj => by match j, hj with | 0, _ => rfl)
  · exact iz_lit (l := [1, 2]) e2 (by decide) (fun j hj => by match j, hj with | 0, _ => rfl | 1, _ => rfl)
  · refine .inr ⟨_, 0, 2, rfl, Nat.le_refl 2, by unfold maxLen; omega, fun j u hj => ?_⟩
    rw [Nat.zero_add, cell_of_row W _ j _ 32 (0, 0) e3]
    simpa [pz] using hj
  · rw [hW]
    exact below_on (below_on (below_alloc w2 _) (below_alloc _ _)) (below_alloc _ _)
  · rw [hW]
    simp
/-- All that was there before the call is as it was, and nobody's. -/
def Fr (w W : World) (own : Nat → Nat) : Prop := Below w.heap.size w W ∧ ∀ k, k < w.heap.size → own k = 0
theorem Fr.later {w W W' : World} {own : Nat → Nat} (h : Fr w W own) (hb : Below W.heap.size W W') : Fr w W' (rel own W 0) := ⟨below_on h.1 hb, fun k hk => (rel_old (Nat.lt_of_lt_of_le hk h.1.size)).trans (h.2 k hk)⟩
theorem Fr.wk {w W W' : World} {own own' : Nat → Nat} (h : Fr w W own) (hk : Wk own own' W W') : Fr w W' own' := ⟨h.1.trans (hk.mv.below h.1.size (fun k e => by
  by_cases c : k < w.heap.size
  · exact absurd (h.2 k c) e
  · omega)), fun k hk' => (hk.1 k (Nat.lt_of_lt_of_le hk' h.1.size)).trans (h.2 k hk')⟩
theorem livers_one {C : Co} {E : List (Int × Int)} {e : Int × Int} (h : Livers (fC C) E) (he : InB e) (hc : ∀ x, (C x).isSome = true ↔ x = e) : E = [e] := by
  obtain ⟨h1, h2, h3, h4⟩ := h
  have hm : ∀ x, x ∈ E ↔ x = e := fun x => by
    constructor
    · intro hx
      have := (h3 x (h4 x hx)).2 hx
      rw [fC_is] at this
      exact (hc x).1 this
    · rintro rfl
      refine (h3 x he).1 ?_
      rw [fC_is]
      exact (hc x).2 rfl
  have hp : E.Perm [e] := (List.perm_ext_iff_of_nodup h2 (by simp)).2 (fun x => by rw [hm x]; simp)
  exact List.perm_singleton.1 hp
theorem iz_nil (w : World) : Iz w (.slice none 0 0) [] := ⟨none, 0, rfl, Nat.le_refl _, Nat.zero_le _, fun j hj => absurd hj (by simp)⟩
set_option maxHeartbeats 8000000 in
theorem shown_any (w : World) : Calls Tryz.prog 9 #[] w fun e w' => e = .returned (.bool true) ∧ Below w.heap.size w w' := by
  go_enter Tryz.func9, Tryz.ntmps9
  go_wp2_with fail
  refine (usual_any w).mono ?_
  rintro e w1 ⟨v, rfl, hk, hb1⟩
  have J1 := hide (wn_new (hk w1 (Below.refl _ _)) usual_may)
  have HB1 := hide hb1
  obtain ⟨av, cv, rfl, -⟩ := hk w1 (Below.refl _ _)
  clear hk hb1
  go_wp2_with fail
  refine J1.out.mono ?_
  rintro e w2 ⟨gw, rfl, ⟨own, ho, hW⟩, hb2⟩
  have F2 : Hid (Fr w w2 own) := ⟨below_on HB1.out hb2, fun k hk => ho k (Nat.lt_of_lt_of_le hk HB1.out.size)⟩
  obtain ⟨w3, hw3⟩ : ∃ X, X = ((w2.alloc (.cells #[.int .i64 7] 2)).alloc (.cells #[.int .i64 1, .int .i64 2] 2)).alloc (.cells #[.int .i64 2, .slice (some ⟨w2.heap.size, 0, none⟩) 1 1, .int .i64 1, .slice (some ⟨w2.heap.size + 1, 0, none⟩) 2 2] 32) := ⟨_, rfl⟩
  obtain ⟨z1, z2, z3, hb3, hs3⟩ := sh_parts hw3
  have F3 := hide (F2.out.later hb3)
  have hnew : ∀ k, w2.heap.size ≤ k → k < w2.heap.size + 3 → rel own w2 0 k = 0 ∧ k < w3.heap.size := fun k h1 h2 => ⟨rel_new h1, by omega⟩
  have J3 : Hid (Calls Tryz.prog 24 #[.pointer (some ⟨gw, 0, none⟩), .slice (some ⟨w2.heap.size + 1 + 1, 0, none⟩) 2 2] w3 fun e w' => e = .returned (.tuple #[.agg #[.int .i64 0, .int .i64 1], .int .i64 0]) ∧ ∃ (vals : List Int) (own' : Nat → Nat), Hid (Wn w' own' gw 3 usualK [1] [] (fun x => if x = (0, 1) then some (6, vals) else none) ∧ Wk (rel own w2 0) own' w3 w')) := by
    refine ((hW.later hb3).spawn (by omega) (.inr (by simp)) _ [(2, some ⟨w2.heap.size, 0, none⟩, 1, 1), (1, some ⟨w2.heap.size + 1, 0, none⟩, 2, 2)] (fun p => if p.1 = 2 then [7] else [1, 2]) z3 (sh_come _ _ _ _) ?_ ?_ ?_ ?_).mono ?_
    · intro k e
      simp only [Value.ownBlock, Option.some.injEq] at e
      exact hnew k (by omega) (by omega)
    · intro p hp
      simp only [List.mem_cons, List.not_mem_nil, or_false] at hp
      rcases hp with rfl | rfl
      · exact ⟨z1, fun e => by cases e⟩
      · exact ⟨z2, fun e => by cases e⟩
    · intro p hp k e
      simp only [List.mem_cons, List.not_mem_nil, or_false] at hp
      rcases hp with rfl | rfl
      · simp only [ptV, Value.ownBlock, Option.some.injEq] at e
        exact hnew k (by omega) (by omega)
      · simp only [ptV, Value.ownBlock, Option.some.injEq] at e
        exact hnew k (by omega) (by omega)
    · intro p hp
      simp only [List.mem_cons, List.not_mem_nil, or_false] at hp
      rcases hp with rfl | rfl
      · intro z hz
        simp at hz
        subst hz
        unfold Pak.Rw.Fits
        omega
      · intro z hz
        simp at hz
        rcases hz with rfl | rfl <;> unfold Pak.Rw.Fits <;> omega
    · rintro e w' ⟨rfl, vals, own', r1, r2, -⟩
      rw [sh_set] at r1
      exact ⟨rfl, vals, own', r1, r2⟩
  clear J1 ho hW hb2 HB1 F2 z1 z2 z3 hb3 hs3 hnew
  go_wp2_with fail
  rw [← hw3]
  refine J3.out.mono ?_
  rintro e w4 ⟨rfl, vals, own4, H4⟩
  have F4 := hide (F3.out.wk H4.out.2)
  obtain ⟨w5, hw5⟩ : ∃ X, X = w4.alloc (.cells #[.int .i64 0, .int .i64 1] 29) := ⟨_, rfl⟩
  have B5 : Below w4.heap.size w4 w5 := hw5 ▸ below_alloc w4 _
  have X5 : Hid (w5.heap[w4.heap.size]? = some (.cells #[.int .i64 0, .int .i64 1] 29 (0, 0)) ∧ rel own4 w4 0 w4.heap.size = 0) := ⟨by rw [hw5]; exact heap_alloc_new w4 _, rel_new (Nat.le_refl _)⟩
  have F5 := hide (F4.out.later B5)
  have J5 : Hid (Calls Tryz.prog 24 #[.pointer (some ⟨gw, 0, none⟩), .slice none 0 0] w5 fun e w' => e = .returned (.tuple #[.agg #[.int .i64 1, .int .i64 1], .int .i64 0]) ∧ ∃ (vals2 : List Int) (own' : Nat → Nat), Hid (Wn w' own' gw 6 usualK [1, 1] [] (fun x => if x = (1, 1) then some (0, vals2) else if x = (0, 1) then some (6, vals) else none) ∧ Wk (rel own4 w4 0) own' w5 w')) := by
    refine ((H4.out.1.later B5).spawn (by omega) (.inr (by simp)) _ [] (fun _ => []) (.inl ⟨rfl, rfl⟩) sh_none (fun k e => by simp [Value.ownBlock] at e) (fun p hp => by cases hp) (fun p hp => by cases hp) (fun p hp => by cases hp)).mono ?_
    rintro e w' ⟨rfl, vals2, own', r1, r2, -⟩
    exact ⟨rfl, vals2, own', r1, r2⟩
  clear J3 H4 F3 F4 hw3 B5
  go_wp2_with fail
  rw [← hw5]
  refine J5.out.mono ?_
  rintro e w6 ⟨rfl, vals2, own6, H6⟩
  obtain ⟨ka, hka⟩ : ∃ k, k = w4.heap.size := ⟨_, rfl⟩
  rw [← hka] at X5 ⊢
  have X6 := hide (wk_at H6.out.2 X5.out.1 X5.out.2)
  have F6 := hide (F5.out.wk H6.out.2)
  obtain ⟨w7, hw7⟩ : ∃ X, X = w6.alloc (.cells #[.int .i64 1, .int .i64 1] 29) := ⟨_, rfl⟩
  have B7 : Below w6.heap.size w6 w7 := hw7 ▸ below_alloc w6 _
  have Y7 : Hid (w7.heap[w6.heap.size]? = some (.cells #[.int .i64 1, .int .i64 1] 29 (0, 0)) ∧ rel own6 w6 0 w6.heap.size = 0) := ⟨by rw [hw7]; exact heap_alloc_new w6 _, rel_new (Nat.le_refl _)⟩
  have X7 : Hid (w7.heap[ka]? = some (.cells #[.int .i64 0, .int .i64 1] 29 (0, 0)) ∧ rel own6 w6 0 ka = 0) := ⟨(B7.block ka (lt_of_block X6.out.1)).trans X6.out.1, (rel_old (lt_of_block X6.out.1)).trans X6.out.2⟩
  have F7 := hide (F6.out.later B7)
  have J7 : Hid (Calls Tryz.prog 27 #[.pointer (some ⟨gw, 0, none⟩), .agg #[.int .i64 1, .int .i64 1], .agg #[.int .i64 3, .slice none 0 0]] w7 fun e w' => e = .returned (.int .i64 0) ∧ ∃ (own' : Nat → Nat), Hid (Wn w' own' gw 10 usualK [1, 1] [] (fun y => if y = (1, 1) then some (8, []) else if y = (1, 1) then some (0, vals2) else if y = (0, 1) then some (6, vals) else none) ∧ Wk (rel own6 w6 0) own' w7 w')) := by
    refine ((H6.out.1.later B7).add (by omega) 1 1 3 0 vals2 [] rfl none 0 0 (iz_nil _) (fun _ => rfl) (fun k e => by simp [Value.ownBlock] at e) sh_add (fun z hz => by cases hz)).mono ?_
    rintro e w' ⟨rfl, vals3, own', r1, r2, r3, -⟩
    have h8 : (0 ||| 2 ^ (3 : Int).toNat) = 8 := by kernel_rfl
    rw [h8] at r1 r3
    rw [sh_sum] at r3
    obtain rfl := List.eq_nil_of_length_eq_zero r3
    exact ⟨rfl, own', r1, r2⟩
  obtain ⟨b0, b1⟩ := kx_cells Y7.out.1 (Below.refl _ w7)
  obtain ⟨kb, hkb⟩ : ∃ k, k = w6.heap.size := ⟨_, rfl⟩
  rw [← hkb] at Y7 b0 b1
  clear J5 H6 F5 F6 X5 X6 hw5 B7 hka
  go_wp2_with fail
  rw [← hw7, ← hkb]
  refine J7.out.mono ?_
  rintro e w8 ⟨rfl, own8, H8⟩
  have X8 := hide (wk_at H8.out.2 X7.out.1 X7.out.2)
  have Y8 := hide (wk_at H8.out.2 Y7.out.1 Y7.out.2)
  have F8 := hide (F7.out.wk H8.out.2)
  have J8 : Hid (Calls Tryz.prog 27 #[.pointer (some ⟨gw, 0, none⟩), .agg #[.int .i64 1, .int .i64 1], .agg #[.int .i64 3, .slice none 0 0]] w8 fun e w' => e = .returned (.int .i64 61) ∧ Below w8.heap.size w8 w') := H8.out.1.add_err 1 1 3 8 [] rfl none 0 0 61 sh_has (by omega)
  clear b0 b1
  obtain ⟨b0, b1⟩ := kx_cells Y8.out.1 (Below.refl _ w8)
  clear J7 F7 X7 Y7 hw7 hkb
  go_wp2_with fail
  refine J8.out.mono ?_
  rintro e w9 ⟨rfl, hb9⟩
  have F9 := hide (F8.out.later hb9)
  have X9 : Hid (w9.heap[ka]? = some (.cells #[.int .i64 0, .int .i64 1] 29 (0, 0)) ∧ rel own8 w8 0 ka = 0) := ⟨(hb9.block ka (lt_of_block X8.out.1)).trans X8.out.1, (rel_old (lt_of_block X8.out.1)).trans X8.out.2⟩
  have Y9 : Hid (w9.heap[kb]? = some (.cells #[.int .i64 1, .int .i64 1] 29 (0, 0)) ∧ rel own8 w8 0 kb = 0) := ⟨(hb9.block kb (lt_of_block Y8.out.1)).trans Y8.out.1, (rel_old (lt_of_block Y8.out.1)).trans Y8.out.2⟩
  have J9 : Hid (Calls Tryz.prog 31 #[.pointer (some ⟨gw, 0, none⟩), .agg #[.int .i64 0, .int .i64 1]] w9 fun e w' => e = .returned (.int .i64 0) ∧ ∃ (own' : Nat → Nat), Hid (Wn w' own' gw 11 usualK [1, 1] [0] (fun x => if x = (0, 1) then none else if x = (1, 1) then some (8, []) else if x = (1, 1) then some (0, vals2) else if x = (0, 1) then some (6, vals) else none) ∧ Wk (rel own8 w8 0) own' w9 w')) := by
    refine ((H8.out.1.later hb9).despawn (by omega) (i := 0) rfl (by decide) (by decide) (by simp)).mono ?_
    rintro e w' ⟨rfl, own', r1, r2⟩
    exact ⟨rfl, own', r1, r2⟩
  clear b0 b1
  obtain ⟨a0, a1⟩ := kx_cells X9.out.1 (Below.refl _ w9)
  clear J8 F8 X8 Y8 hb9 H8
  go_wp2_with fail
  refine J9.out.mono ?_
  rintro e w10 ⟨rfl, own10, H10⟩
  obtain ⟨x1, -⟩ := wk_at H10.out.2 X9.out.1 X9.out.2
  obtain ⟨y1, -⟩ := wk_at H10.out.2 Y9.out.1 Y9.out.2
  have F10 := hide (F9.out.wk H10.out.2)
  have J10 : Hid (Calls Tryz.prog 13 #[.pointer (some ⟨gw, 0, none⟩)] w10 fun e w' => ∃ a n c, e = .returned (.slice a n c) ∧ (convert 51 9 (.slice a n c)).run Tryz.prog w' = .ok (.string ⟨#[2, 0, 2, 2, 1, 0, 0, 8]⟩) w' ∧ Hid (Below w.heap.size w w')) := by
    refine H10.out.1.snapshot.mono ?_
    rintro e w' ⟨v, rfl, ⟨E, hE, l, hl, hv⟩, hb⟩
    have hE1 : E = [(1, 1)] := livers_one hE ⟨⟨by decide, by decide⟩, by decide, by decide⟩ (fun x => by
      by_cases c0 : x = (0, 1)
      · subst c0; simp
      · by_cases c1 : x = (1, 1)
        · subst c1; simp
        · simp [c0, c1])
    have hl2 : l = [2, 0, 2, 2, 1, 0, 0, 8] := by
      rw [hl, hE1]
      rw [← sh_bytes]
      simp [oneB]
    have hc := Pak.conv_bs (bs_own hv rfl)
    rw [hl2] at hc
    obtain ⟨a, n, c, rfl⟩ := own_slice hv
    exact ⟨a, n, c, rfl, hc, below_on F10.out.1 hb⟩
  clear a0 a1
  obtain ⟨a0, a1⟩ := kx_cells x1 (Below.refl _ w10)
  obtain ⟨b0, b1⟩ := kx_cells y1 (Below.refl _ w10)
  clear J9 F9 X9 Y9 H10 x1 y1
  go_wp2_with fail
  refine J10.out.mono ?_
  rintro e w11 ⟨a, n, c, rfl, hcv, HE⟩
  clear J10
  go_wp2_with fail
  go_ret
  exact ⟨rfl, HE.out⟩
end Go.Proofs.YtafmiolehlagkaaGreat

/-
  World: a part of the usual kinds, made of a number.
-/
namespace Go.Proofs.YtafmiolehlagkaaGreat
open Go.RowKit
set_option maxRecDepth 100000
theorem results_cell_one {fn : Func} {p : Tmp} {ty : TypeId} (h : fn.results = #[.cell p ty]) (tmps : Array Value) (P : Program) (w : World) :
    (results fn tmps).run P w = ((asAddr (tmps.getD p undef)).run P w).andThen fun a w₁ => (loadVar ty a).run P w₁ := by
  simp only [results, h]
  simp [Sem.run_bind, Result.andThen]
def c4 (k : Nat) : Nat := [2, 1, 0, 4].getD k 0
def valsN (y : Int) (n : Nat) : List Int := (List.range n).map fun j : Nat => wrap64 (y + (j : Int))
theorem valsN_len (y : Int) (n : Nat) : (valsN y n).length = n := by simp [valsN]
theorem valsN_push (y : Int) (n : Nat) : valsN y (n + 1) = valsN y n ++ [wrap64 (y + (n : Int))] := by simp [valsN, List.range_succ]
theorem valsN_fit (y : Int) (n : Nat) : Pak.Rw.AllFit (valsN y n) := fun z hz => by
  simp only [valsN, List.mem_map] at hz
  obtain ⟨j, -, rfl⟩ := hz
  exact Pak.Rw.wrap64_fits _
theorem c4_le {k : Nat} (h : k < 4) : c4 k ≤ 4 := by
  match k, h with
  | 0, _ => decide
  | 1, _ => decide
  | 2, _ => decide
  | 3, _ => decide
theorem c4_cell (W : World) {k : Nat} (h : k < 4) : (W.alloc (.cells #[.int .i64 2, .int .i64 1, .int .i64 0, .int .i64 4] 3)).cell? ⟨W.heap.size, k, none⟩ = some (.int .i64 (c4 k : Int)) := by
  rw [cell_of_row _ _ _ _ 3 (0, 0) (heap_alloc_new W _)]
  match k, h with
  | 0, _ => rfl
  | 1, _ => rfl
  | 2, _ => rfl
  | 3, _ => rfl
theorem block_kind {w : World} {B e s n g : Nat} {e' : TypeId} {v : Value} {xs : List Value} {o : Array Value} (h : w.ownsRow B e s v n xs) (hg : w.heap[g]? = some (.cells o e' (0, 0))) (hne : e ≠ e') : v.ownBlock ≠ some g := fun hk => by
  rcases h.2 with ⟨rfl, -⟩ | ⟨g', c, cur, rfl, -, hg', -⟩
  · simp [Value.ownBlock] at hk
  · simp only [Value.ownBlock, Option.some.injEq] at hk
    subst hk
    rw [hg] at hg'
    simp only [Option.some.injEq, Obj.cells.injEq] at hg'
    exact hne hg'.2.1.symm
/-- The part under way. -/
def Pw (w W : World) (kp kr : Nat) (k : Nat) (y : Int) (v : Value) (i : Nat) : Prop :=
  W.heap[kp]? = some (.cells #[.int .i64 ((k : Int) + 1), v] 32 (0, 0)) ∧ W.ownsRow w.heap.size 2 1 v i (zc (valsN y i)) ∧ W.heap[kr]? = some (.cells #[.int .i64 0, .slice none 0 0] 32 (0, 0)) ∧ Below w.heap.size w W ∧ w.heap.size ≤ kp ∧ w.heap.size ≤ kr ∧ kp ≠ kr
theorem Pw.turn {w W W' : World} {kp kr k i : Nat} {y : Int} {v v' : Value} (h : Pw w W kp kr k y v i) {W1 : World} (hb : Below W.heap.size W W1) (ho : W'.ownsRow w.heap.size 2 1 v' (i + 1) (zc (valsN y i) ++ [.int .i64 (wrap64 (y + (i : Int)))])) (hg : W1.grownBy W' v.ownBlock) :
    (W'.cell? ⟨kp, 1, none⟩ = some v ∧ W'.frozen? ⟨kp, 1, none⟩ = false) ∧ Pw w (W'.setCell ⟨kp, 1, none⟩ v') kp kr k y v' (i + 1) := by
  obtain ⟨h1, h2, h3, h4, h5, h6, h7⟩ := h
  have b1 := (hb.block kp (lt_of_block h1)).trans h1
  have b3 := (hb.block kr (lt_of_block h3)).trans h3
  have o1 := own_later h2 hb
  have p1 : W'.heap[kp]? = some (.cells #[.int .i64 ((k : Int) + 1), v] 32 (0, 0)) := (hg.block kp (lt_of_block b1) (fun e => block_kind o1 b1 (by decide) e.symm)).trans b1
  have p3 : W'.heap[kr]? = some (.cells #[.int .i64 0, .slice none 0 0] 32 (0, 0)) := (hg.block kr (lt_of_block b3) (fun e => block_kind o1 b3 (by decide) e.symm)).trans b3
  refine ⟨⟨by rw [cell_of_row W' kp _ _ 32 (0, 0) p1]; rfl, frozen_of_row W' kp 1 _ 32 p1⟩, heap_setCell_same W' kp 1 _ 32 v' p1, ?_, (heap_setCell_other W' ⟨kp, 1, none⟩ kr _ (fun e => h7 e.symm)).trans p3, ?_, h5, h6, h7⟩
  · rw [valsN_push, zc_append]
    exact own_set ho (block_kind ho p1 (by decide))
  · refine below_set ((below_on h4 hb).grown hg (below_on h4 hb).size (fun k e => (h2.lt k e).1)) h5
set_option maxHeartbeats 8000000 in
theorem part_any (x y : Int) (w : World) (h0 : -9223372036854775808 ≤ x) (h1 : x ≤ 9223372036854775807) :
    Calls Tryz.prog 23 #[.int .i64 x, .int .i64 y] w fun e w' => ∃ v, e = .returned (.agg #[.int .i64 ((pk x 4 : Nat) + 1 : Int), v]) ∧ w'.ownsRow w.heap.size 2 1 v (c4 (pk x 4)) (zc (valsN y (c4 (pk x 4)))) ∧ Below w.heap.size w w' := by
  obtain ⟨i0, hi0, hz0, hz1, hz2⟩ := info_parts info2
  have hk4 : pk x 4 < 4 := pk_lt x (by omega)
  have J1 := hide (pick_any x 4 (w.alloc (.cells #[.int .i64 0, .slice none 0 0] 32)) h0 h1 (by omega) (by omega))
  generalize pk x 4 = k at *
  have hcn := c4_le hk4
  have HC : Hid (∀ W : World, (W.alloc (.cells #[.int .i64 2, .int .i64 1, .int .i64 0, .int .i64 4] 3)).cell? ⟨W.heap.size, k, none⟩ = some (.int .i64 (c4 k : Int))) := fun W => c4_cell W hk4
  generalize c4 k = cn at *
  have tk : (k : Int) < 4 := by omega
  have tk1 : IntKind.i64.wrap ((k : Int) + 1) = ((k : Int) + 1) := by rw [IntKind.wrap_i64]; omega
  go_enter Tryz.func23, Tryz.ntmps23
  go_wp2_with fail
  refine J1.out.mono ?_
  rintro e w1 ⟨rfl, rfl⟩
  clear J1
  have H0 : Hid (Pw w ((w.alloc (.cells #[.int .i64 0, .slice none 0 0] 32)).alloc (.cells #[.int .i64 ((k : Int) + 1), .slice none 0 0] 32)) (w.heap.size + 1) w.heap.size k y (.slice none 0 0) 0) := by
    refine ⟨?_, by simpa [valsN, zc] using World.ownsRow_nil _ _ _ _, ?_, below_on (below_alloc w _) (below_alloc _ _), by omega, Nat.le_refl _, by omega⟩
    · have := heap_alloc_new (w.alloc (.cells #[.int .i64 0, .slice none 0 0] 32)) (.cells #[.int .i64 ((k : Int) + 1), .slice none 0 0] 32)
      simpa using this
    · exact ((below_alloc _ _).block _ (by simp)).trans (heap_alloc_new w _)
  go_wp2_with fail
  obtain ⟨kp, hkp⟩ : ∃ q, q = w.heap.size + 1 := ⟨_, rfl⟩
  rw [← hkp] at H0 ⊢
  clear hkp tk1
  go_loopw [7] (fun v7 W => ∃ (i : Nat) (v : Value), i ≤ cn ∧ v7 = .int .i64 (i : Int) ∧ Hid (Pw w W kp w.heap.size k y v i)) (fun v7 _ => cn - (intOf v7).toNat)
  case atStart => exact ⟨0, _, Nat.zero_le _, rfl, H0⟩
  case round =>
    obtain ⟨i, v, hil, rfl, HP⟩ := hrel
    have hcell := HC.out wr
    have hb1 := below_alloc wr (.cells #[.int .i64 2, .int .i64 1, .int .i64 0, .int .i64 4] 3)
    have hkq := (hb1.block kp (lt_of_block HP.out.1)).trans HP.out.1
    have p0 : (wr.alloc (.cells #[.int .i64 2, .int .i64 1, .int .i64 0, .int .i64 4] 3)).cell? ⟨kp, 0, none⟩ = some (.int .i64 ((k : Int) + 1)) := by rw [cell_of_row _ kp _ _ 32 (0, 0) hkq]; rfl
    have p1 : (wr.alloc (.cells #[.int .i64 2, .int .i64 1, .int .i64 0, .int .i64 4] 3)).cell? ⟨kp, 1, none⟩ = some v := by rw [cell_of_row _ kp _ _ 32 (0, 0) hkq]; rfl
    have tk0 : (0 : Int) ≤ (k : Int) := by omega
    by_cases hlt : i < cn
    · have t1 : (i : Int) < (cn : Int) := by omega
      obtain ⟨av, nv, cv, rfl⟩ := own_slice HP.out.2.1
      have HO : Hid (((wr.alloc (.cells #[.int .i64 2, .int .i64 1, .int .i64 0, .int .i64 4] 3)).alloc (.cells #[.int .i64 (wrap64 (y + (i : Int)))] 2)).ownsRow w.heap.size 2 1 (.slice av nv cv) i (zc (valsN y i))) := (own_later (own_later HP.out.2.1 hb1) (below_alloc _ _))
      have HT : Hid (∀ (W' : World) (v' : Value), W'.ownsRow w.heap.size 2 1 v' (i + 1) (zc (valsN y i) ++ [.int .i64 (wrap64 (y + (i : Int)))]) → ((wr.alloc (.cells #[.int .i64 2, .int .i64 1, .int .i64 0, .int .i64 4] 3)).alloc (.cells #[.int .i64 (wrap64 (y + (i : Int)))] 2)).grownBy W' (Value.slice av nv cv).ownBlock → (W'.cell? ⟨kp, 1, none⟩ = some (.slice av nv cv) ∧ W'.frozen? ⟨kp, 1, none⟩ = false) ∧ Pw w (W'.setCell ⟨kp, 1, none⟩ v') kp w.heap.size k y v' (i + 1)) := fun W' v' k1 k2 => HP.out.turn (below_on hb1 (below_alloc _ _)) k1 k2
      have HS : Hid (w.heap.size ≤ ((wr.alloc (.cells #[.int .i64 2, .int .i64 1, .int .i64 0, .int .i64 4] 3)).alloc (.cells #[.int .i64 (wrap64 (y + (i : Int)))] 2)).heap.size) := (below_on HP.out.2.2.2.1 (below_on hb1 (below_alloc _ _))).size
      have ew : IntKind.i64.wrap (y + (i : Int)) = wrap64 (y + (i : Int)) := by rw [IntKind.wrap_i64, wrap64]
      clear HP hb1 hkq
      generalize wrap64 (y + (i : Int)) = z at *
      go_wp2_with (at_builtin; refine wpList_append_own_at _ rfl _ _ 30 rfl w.heap.size 2 i0 (.int .i64 0) 1 8 Tryz.underlying30 hi0 hz0 hz1 hz2 rfl (by decide) _ i (zc (valsN y i)) rfl HO.out ⟨wr.heap.size + 1, 0, none⟩ 1 1 [.int .i64 z] rfl rfl ?d1 ?d2 ?d3 ?d4 ?d5 ?_)
      case d1 =>
        intro j u hj
        match j, hj with
        | 0, hj => simp at hj; subst hj; simp [Addr.add]
      case d2 =>
        intro u hu
        simp at hu
        subst hu
        rfl
      case d3 => unfold maxLen; omega
      case d4 => omega
      case d5 => exact HS.out
      intro v9 w9 o9 hg9 _ _
      obtain ⟨a9, n9, c9, rfl⟩ := own_slice o9
      obtain ⟨⟨q1, q2⟩, hp9⟩ := HT.out w9 _ o9 hg9
      have HP9 := hide hp9
      clear o9 hg9 hp9 HT HO hcell p0 p1
      go_wp2_with fail
      go_roundw
      case rel => exact ⟨i + 1, _, by omega, by go_num, HP9⟩
      case measure => simp [intOf]; omega
    · obtain rfl : i = cn := by omega
      have t1 : ¬ (i : Int) < (i : Int) := by omega
      have hp := HP.out
      have hkr := (hb1.block w.heap.size (lt_of_block hp.2.2.1)).trans hp.2.2.1
      have f0 := frozen_of_row _ w.heap.size 0 _ 32 hkr
      have f1 := frozen_of_row _ w.heap.size 1 _ 32 hkr
      have r0 : (wr.alloc (.cells #[.int .i64 2, .int .i64 1, .int .i64 0, .int .i64 4] 3)).cell? ⟨w.heap.size, 0, none⟩ = some (.int .i64 0) := by rw [cell_of_row _ w.heap.size _ _ 32 (0, 0) hkr]; rfl
      have r1 : (wr.alloc (.cells #[.int .i64 2, .int .i64 1, .int .i64 0, .int .i64 4] 3)).cell? ⟨w.heap.size, 1, none⟩ = some (.slice none 0 0) := by rw [cell_of_row _ w.heap.size _ _ 32 (0, 0) hkr]; rfl
      have HE : Hid ((((wr.alloc (.cells #[.int .i64 2, .int .i64 1, .int .i64 0, .int .i64 4] 3)).setCell ⟨w.heap.size, 0, none⟩ (.int .i64 ((k : Int) + 1))).setCell ⟨w.heap.size, 1, none⟩ v).ownsRow w.heap.size 2 1 v i (zc (valsN y i)) ∧ Below w.heap.size w (((wr.alloc (.cells #[.int .i64 2, .int .i64 1, .int .i64 0, .int .i64 4] 3)).setCell ⟨w.heap.size, 0, none⟩ (.int .i64 ((k : Int) + 1))).setCell ⟨w.heap.size, 1, none⟩ v)) := by
        have o1 := own_later hp.2.1 hb1
        have hne := block_kind o1 hkr (by decide)
        exact ⟨own_set (own_set o1 hne) hne, below_set (below_set (below_on hp.2.2.2.1 hb1) (Nat.le_refl _)) (Nat.le_refl _)⟩
      obtain ⟨av, nv, cv, rfl⟩ := own_slice hp.2.1
      clear hp hkr hkq hb1 HP
      go_wp2_with fail
      (try simp only [Exit.inBlock, Exit.then])
      refine bodyPost_ret (v := .agg #[.int .i64 ((k : Int) + 1), .slice av nv cv]) ?_ rfl ⟨_, rfl, HE.out⟩
      rw [results_cell_one rfl]
      go_simp
end Go.Proofs.YtafmiolehlagkaaGreat

/-
  World: what WorldStale reckons with.
-/
namespace Go.Proofs.YtafmiolehlagkaaGreat
open Go.RowKit
set_option maxRecDepth 100000
def bz (l : List Bool) : List Value := l.map Value.bool
def cntB (l : List Bool) : Nat := (l.filter id).length
/-- Who is there, of all. -/
def aliveL (all : List (Nat × Nat)) (onl : List Bool) : List (Nat × Nat) := ((all.zip onl).filter (fun x => x.2)).map (·.1)
theorem alive_len {all : List (Nat × Nat)} {onl : List Bool} (h : all.length = onl.length) : (aliveL all onl).length = cntB onl := by
  have e : (all.zip onl).map (·.2) = onl := List.map_snd_zip (by omega)
  unfold aliveL cntB
  conv => rhs; rw [← e, List.filter_map]
  simp
theorem alive_nodup {all : List (Nat × Nat)} {onl : List Bool} (h : all.length = onl.length) (hn : all.Nodup) : (aliveL all onl).Nodup := by
  have e : (all.zip onl).map (·.1) = all := List.map_fst_zip (by omega)
  have hs : (aliveL all onl).Sublist ((all.zip onl).map (·.1)) := List.Sublist.map _ List.filter_sublist
  rw [e] at hs
  exact hn.sublist hs
theorem alive_mem {all : List (Nat × Nat)} {onl : List Bool} (h : all.length = onl.length) (p : Nat × Nat) : p ∈ aliveL all onl ↔ ∃ k, ∃ (h1 : k < all.length) (h2 : k < onl.length), all[k] = p ∧ onl[k] = true := by
  unfold aliveL
  rw [List.mem_map]
  constructor
  · rintro ⟨⟨x, b⟩, hx, rfl⟩
    obtain ⟨h1, h2⟩ := List.mem_filter.1 hx
    obtain ⟨k, hk, e⟩ := List.getElem_of_mem h1
    rw [List.length_zip] at hk
    rw [List.getElem_zip] at e
    simp only [Prod.mk.injEq] at e
    exact ⟨k, by omega, by omega, e.1, by rw [e.2]; exact h2⟩
  · rintro ⟨k, h1, h2, rfl, h4⟩
    refine ⟨(all[k], onl[k]), List.mem_filter.2 ⟨?_, h4⟩, rfl⟩
    have hk : k < (all.zip onl).length := by rw [List.length_zip]; omega
    have := List.getElem_mem hk
    rwa [List.getElem_zip] at this
/-- Behind t rounds: all that were given, which of them are there, and how many. -/
def Sl (t : Nat) (gs fr : List Nat) (all : List (Nat × Nat)) (onl : List Bool) : Prop :=
  all.length = onl.length ∧ all.length ≤ t ∧ (∀ x ∈ gs, x ≤ t) ∧ (∀ p ∈ all, p.1 < gs.length ∧ p.2 ≤ gs.getD p.1 0) ∧ all.Nodup ∧ (∀ k (h1 : k < all.length) (h2 : k < onl.length), livesOf gs fr (all[k].1 : Int) (all[k].2 : Int) = onl[k]) ∧ ∀ a b, livesOf gs fr a b = true → ∃ p ∈ all, a = (p.1 : Int) ∧ b = (p.2 : Int)
section
variable {t : Nat} {gs fr : List Nat} {all : List (Nat × Nat)} {onl : List Bool}
theorem Sl.start : Sl 0 [] [] [] [] := ⟨rfl, Nat.le_refl _, fun x hx => (by cases hx), fun x hx => (by cases hx), List.nodup_nil, fun k h => absurd h (by simp), fun a b h => by simp [livesOf, isOn] at h⟩
theorem Sl.more (h : Sl t gs fr all onl) : Sl (t + 1) gs fr all onl := ⟨h.1, by have := h.2.1; omega, fun x hx => by have := h.2.2.1 x hx; omega, h.2.2.2⟩
theorem Sl.alive (h : Sl t gs fr all onl) (p : Nat × Nat) : p ∈ aliveL all onl ↔ livesOf gs fr (p.1 : Int) (p.2 : Int) = true := by
  obtain ⟨h1, h2, h3, h4, h5, h6, h7⟩ := h
  rw [alive_mem h1]
  constructor
  · rintro ⟨k, k1, k2, rfl, k4⟩
    rw [h6 k k1 k2, k4]
  · intro hl
    obtain ⟨q, hq, e1, e2⟩ := h7 _ _ hl
    obtain ⟨k, hk, rfl⟩ := List.getElem_of_mem hq
    have : p = all[k] := Prod.ext (by omega) (by omega)
    subst this
    exact ⟨k, hk, by omega, rfl, by rw [← h6 k hk (by omega)]; exact hl⟩
theorem Sl.idx (h : Sl t gs fr all onl) : ((aliveL all onl).map (·.1)).Nodup ∧ ∀ i, i ∈ (aliveL all onl).map (·.1) ↔ i < gs.length ∧ gs.getD i 0 ≤ 1000000 ∧ i ∉ fr := by
  have hm := h.alive
  refine ⟨List.pairwise_map.2 (List.Pairwise.imp_of_mem (fun {x y} hx hy hne e => ?_) (alive_nodup h.1 h.2.2.2.2.1)), fun i => ?_⟩
  · obtain ⟨i, i1, i2, i3, i4, i5⟩ := (lives_iff _ _ _ _).1 ((hm x).1 hx)
    obtain ⟨j, j1, j2, j3, j4, j5⟩ := (lives_iff _ _ _ _).1 ((hm y).1 hy)
    have : i = j := by omega
    subst this
    exact hne (Prod.ext e (by omega))
  · rw [List.mem_map]
    constructor
    · rintro ⟨p, hp, rfl⟩
      obtain ⟨i, i1, i2, i3, i4, i5⟩ := (lives_iff _ _ _ _).1 ((hm p).1 hp)
      have : i = p.1 := by omega
      subst this
      exact ⟨i2, i3, i4⟩
    · rintro ⟨i1, i2, i3⟩
      exact ⟨(i, gs.getD i 0), (hm _).2 ((lives_iff _ _ _ _).2 ⟨i, rfl, i1, i2, i3, rfl⟩), rfl⟩
theorem Sl.len (h : Sl t gs fr all onl) : ((aliveL all onl).map (·.1)).length = cntB onl := by rw [List.length_map, alive_len h.1]
theorem Sl.room (h : Sl t gs fr all onl) (ho : Ok 200 gs fr) (hr : fr ≠ [] ∨ gs.length < 200) : cntB onl < 200 := by
  obtain ⟨h1, h2⟩ := h.idx
  rw [← h.len]
  cases fr with
  | nil =>
    have := nodup_len gs.length _ h1 (fun i hi => ((h2 i).1 hi).1)
    rcases hr with c | c
    · exact absurd rfl c
    · omega
  | cons k r =>
    have hk := (ho.2.2.2.2.2 k (by simp)).1
    have hn : (k :: (aliveL all onl).map (·.1)).Nodup := List.nodup_cons.2 ⟨fun hm => ((h2 k).1 hm).2.2 (by simp), h1⟩
    have := nodup_len gs.length _ hn (fun i hi => by
      rcases List.mem_cons.1 hi with rfl | hi
      · exact hk
      · exact ((h2 i).1 hi).1)
    have := ho.2.2.1
    simp only [List.length_cons] at *
    omega
theorem Sl.full (h : Sl t gs fr all onl) (ht : t ≤ 500) (hf : fr = []) (hg : gs.length = 200) : cntB onl = 200 := by
  obtain ⟨h1, h2⟩ := h.idx
  have hp : ((aliveL all onl).map (·.1)).Perm (List.range 200) := (List.perm_ext_iff_of_nodup h1 List.nodup_range).2 (fun i => by
    rw [h2, List.mem_range, hf]
    constructor
    · rintro ⟨a, -⟩; omega
    · intro hi
      refine ⟨by omega, ?_, by simp⟩
      have : gs.getD i 0 ≤ t := by
        rw [List.getD_eq_getElem?_getD, List.getElem?_eq_getElem (by omega)]
        exact h.2.2.1 _ (List.getElem_mem _)
      omega)
  rw [← h.len, hp.length_eq, List.length_range]
theorem take_fresh (h : Sl t gs fr all onl) : takeE gs fr ∉ all := fun hm => by
  have := h.2.2.2.1 _ hm
  cases fr with
  | nil => simp only [takeE] at this; omega
  | cons k r => simp only [takeE] at this; omega
theorem Sl.take (h : Sl t gs fr all onl) (ho : Ok 200 gs fr) (hr : fr ≠ [] ∨ gs.length < 200) : Sl (t + 1) (takeG gs fr) (takeF fr) (all ++ [takeE gs fr]) (onl ++ [true]) := by
  have hnew := take_fresh h
  have hl := lives_take ho hr
  obtain ⟨h1, h2, h3, h4, h5, h6, h7⟩ := h
  have hgd : ∀ i, gs.getD i 0 ≤ t := fun i => by
    by_cases hi : i < gs.length
    · rw [List.getD_eq_getElem?_getD, List.getElem?_eq_getElem hi]
      exact h3 _ (List.getElem_mem _)
    · simp [hi]
  refine ⟨by simp [h1], by simp; omega, fun x hx => ?_, fun p hp => ?_, ?_, fun k k1 k2 => ?_, fun a b hab => ?_⟩
  · cases fr with
    | nil =>
      simp only [takeG, List.mem_append, List.mem_singleton] at hx
      rcases hx with hx | rfl
      · have := h3 x hx; omega
      · omega
    | cons j r =>
      simp only [takeG] at hx
      rcases List.mem_or_eq_of_mem_set hx with hx | rfl
      · have := h3 x hx; omega
      · have := hgd j; omega
  · cases fr with
    | nil =>
      simp only [takeG, takeE, List.length_append, List.length_singleton, getD_push] at hp ⊢
      rcases List.mem_append.1 hp with hp | hp
      · have := h4 p hp
        rw [if_pos this.1]
        exact ⟨by omega, this.2⟩
      · rw [List.mem_singleton.1 hp]
        dsimp only
        rw [if_neg (by omega), if_pos rfl]
        exact ⟨by omega, Nat.le_refl _⟩
    | cons j r =>
      have hj := (ho.2.2.2.2.2 j (by simp)).1
      simp only [takeG, takeE, List.length_set, getD_set hj] at hp ⊢
      rcases List.mem_append.1 hp with hp | hp
      · have := h4 p hp
        refine ⟨this.1, ?_⟩
        split
        · rename_i e
          rw [← e] at this
          omega
        · exact this.2
      · rw [List.mem_singleton.1 hp]
        dsimp only
        rw [if_pos rfl]
        exact ⟨hj, Nat.le_refl _⟩
  · rw [List.nodup_append]
    refine ⟨h5, by simp, fun x hx y hy e => ?_⟩
    rw [List.mem_singleton.1 hy] at e
    exact hnew (e ▸ hx)
  · by_cases c : k < all.length
    · rw [List.getElem_append_left c, List.getElem_append_left (by omega)]
      rw [← h6 k c (by omega), Bool.eq_iff_iff, hl]
      constructor
      · rintro (e | e)
        · simp only [Prod.mk.injEq] at e
          have : all[k] = takeE gs fr := Prod.ext (by omega) (by omega)
          exact absurd (this ▸ List.getElem_mem c) hnew
        · exact e
      · exact .inr
    · have hk : k = all.length := by simp at k1; omega
      subst hk
      rw [List.getElem_append_right (Nat.le_refl _)]
      have e2 : (onl ++ [true])[all.length]'k2 = true := by
        rw [List.getElem_append_right (by omega)]
        simp
      rw [e2]
      simp only [Nat.sub_self, List.getElem_cons_zero]
      rw [hl]
      exact .inl rfl
  · rcases (hl a b).1 hab with e | e
    · simp only [Prod.mk.injEq] at e
      exact ⟨takeE gs fr, by simp, e.1, e.2⟩
    · obtain ⟨p, hp, e1, e2⟩ := h7 a b e
      exact ⟨p, List.mem_append_left _ hp, e1, e2⟩
theorem Sl.at (h : Sl t gs fr all onl) (ht : t ≤ 500) (k : Nat) (h1 : k < all.length) (h2 : k < onl.length) (hk : onl[k] = true) : all[k].1 < gs.length ∧ gs.getD all[k].1 0 = all[k].2 ∧ gs.getD all[k].1 0 ≤ 1000000 ∧ all[k].1 ∉ fr ∧ gs.getD all[k].1 0 ≠ 1000000 := by
  have := (h.2.2.2.2.2.1 k h1 h2).trans hk
  obtain ⟨i, i1, i2, i3, i4, i5⟩ := (lives_iff _ _ _ _).1 this
  have e : i = all[k].1 := by omega
  subst e
  have hle : gs.getD all[k].1 0 ≤ t := by
    rw [List.getD_eq_getElem?_getD, List.getElem?_eq_getElem i2]
    exact h.2.2.1 _ (List.getElem_mem _)
  exact ⟨i2, by omega, i3, i4, by omega⟩
theorem Sl.give (h : Sl t gs fr all onl) (ht : t ≤ 500) (k : Nat) (k1 : k < all.length) (k2 : k < onl.length) (hk : onl[k] = true) : Sl (t + 1) (giveG gs all[k].1) (giveF gs fr all[k].1) all (onl.set k false) := by
  obtain ⟨a1, a2, a3, a4, a5⟩ := h.at ht k k1 k2 hk
  have hl := lives_give a1 a3 a4
  obtain ⟨h1, h2, h3, h4, h5, h6, h7⟩ := h
  have eG : giveG gs all[k].1 = gs := if_neg a5
  rw [eG] at hl ⊢
  refine ⟨by rw [List.length_set]; exact h1, by omega, fun x hx => by have := h3 x hx; omega, h4, h5, fun j j1 j2 => ?_, fun a b hab => h7 a b ((hl a b).1 hab).2⟩
  rw [List.length_set] at j2
  by_cases c : k = j
  · subst c
    rw [List.getElem_set_self, ← Bool.not_eq_true, hl]
    rintro ⟨hne, -⟩
    exact hne (by rw [a2])
  · rw [List.getElem_set_ne c, ← h6 j j1 j2, Bool.eq_iff_iff, hl]
    refine ⟨fun h => h.2, fun h => ⟨fun e => ?_, h⟩⟩
    simp only [Prod.mk.injEq] at e
    exact c (nodup_at h5 k1 j1 (Prod.ext (by omega) (by omega)))
end
end Go.Proofs.YtafmiolehlagkaaGreat

/-
  World: WorldStale's state: the world, all that were given, and which of them are there.
-/
namespace Go.Proofs.YtafmiolehlagkaaGreat
open Go.RowKit
set_option maxRecDepth 100000
section
variable {w W W' : World} {own own' : Nat → Nat} {gw N : Nat} {ks : List Kind} {gs fr : List Nat} {C : Co}
theorem Wn.frame {S : Nat → Prop} (h : Wn W own gw N ks gs fr C) (hm : Mv W W' S) (hS : ∀ k, k < W.heap.size → S k → own k = 0) : Wn W' (rel own W 0) gw N ks gs fr C := by
  obtain ⟨vk, gp, gm, gt, q, T, h1, h2⟩ := h
  exact ⟨vk, gp, gm, gt, q, T, h1.frame (.inl rfl) hm (fun k hk e => .inl (hS k hk e)), h2⟩
theorem Wn.lives (h : Wn W own gw N ks gs fr C) (a b : Int) : Calls Tryz.prog 32 #[.pointer (some ⟨gw, 0, none⟩), .agg #[.int .i64 a, .int .i64 b]] W fun e w' => e = .returned (.bool (C (a, b)).isSome) ∧ Below W.heap.size W w' := by
  obtain ⟨vk, gp, gm, gt, q, T, h1, h2, h3, h4, h5, h6⟩ := h
  rw [← h5]
  exact wlives_any h1 a b
def liveE (C : Co) (a b z : Int) : Int := if (C (a, b)).isSome then z else 41
theorem Wn.row (h : Wn W own gw N ks gs fr C) (a b : Int) : Calls Tryz.prog 33 #[.pointer (some ⟨gw, 0, none⟩), .agg #[.int .i64 a, .int .i64 b]] W fun e w' => (∃ x y a' n c, e = .returned (.tuple #[.agg #[.int .i64 x, .int .i64 y, .slice a' n c], .int .i64 (liveE C a b 0)])) ∧ Below W.heap.size W w' := by
  have ho := h.ok
  obtain ⟨vk, gp, gm, gt, q, T, h1, h2, h3, h4, h5, h6⟩ := h
  unfold liveE
  cases hc : C (a, b) with
  | none =>
    refine (row_stale h1 a b (by rw [h5, hc]; rfl)).mono ?_
    rintro e w' ⟨rfl, hb⟩
    exact ⟨⟨0, 0, none, 0, 0, rfl⟩, hb⟩
  | some p =>
    obtain ⟨s, vals⟩ := p
    have hl : livesOf gs fr a b = true := by rw [h5, hc]; rfl
    have hf := fC_some hc
    obtain ⟨hs, ⟨g, hq⟩, -⟩ := h2.1 _ s hf
    obtain ⟨i, hi, hx, -⟩ := h3 _ s vals hc
    refine (row_live h1 a b hl (inb_of ho hl) h4.2.1 s g i hf hq hs hi hx (h2.2 s g hq).2.1).mono ?_
    rintro e w' ⟨v, rfl, ⟨L, hL, -⟩, hb⟩
    obtain ⟨a', n, c, rfl⟩ := own_slice hL
    exact ⟨⟨a, b, a', n, c, rfl⟩, hb⟩
theorem Wn.has (h : Wn W own gw N ks gs fr C) (a b : Int) : ∃ s, s < 8192 ∧ (livesOf gs fr a b = true → fC C (a, b) = some s) := by
  obtain ⟨vk, gp, gm, gt, q, T, h1, h2, h3, h4, h5, h6⟩ := h
  cases hc : C (a, b) with
  | none => exact ⟨0, by omega, fun e => by rw [h5, hc] at e; cases e⟩
  | some p =>
    obtain ⟨s, vals⟩ := p
    exact ⟨s, (h2.1 _ s (fC_some hc)).1, fun _ => fC_some hc⟩
/-- How many rows there are. -/
theorem Wn.count (h : Wn W own gw N ks gs fr C) {t : Nat} {all : List (Nat × Nat)} {onl : List Bool} (hs : Sl t gs fr all onl) : Calls Tryz.prog 29 #[.pointer (some ⟨gw, 0, none⟩)] W fun e w' => (∃ a c, e = .returned (.slice a (cntB onl) c)) ∧ Below W.heap.size W w' := by
  have ho := h.ok
  obtain ⟨vk, gp, gm, gt, q, T, h1, h2, h3, h4, h5, h6⟩ := h
  refine (rows_any h1 h2 h4.2.1 (fun E e1 e2 => lives_cnt h5 ho.2.2.1 E e1 e2)).mono ?_
  rintro e w' ⟨v, rfl, ⟨R, r1, r2, r3, r4, r5, r6⟩, hb⟩
  obtain ⟨a, c, rfl⟩ := own_len r1
  have hn : ((aliveL all onl).map (fun p => ((p.1 : Int), (p.2 : Int)))).Nodup := List.pairwise_map.2 ((alive_nodup hs.1 hs.2.2.2.2.1).imp (fun {x y} hne e => hne (by
    simp only [Prod.mk.injEq] at e
    exact Prod.ext (by omega) (by omega))))
  have hp : (R.map entR).Perm ((aliveL all onl).map (fun p => ((p.1 : Int), (p.2 : Int)))) := (List.perm_ext_iff_of_nodup r3 hn).2 (fun e => by
    constructor
    · intro he
      obtain ⟨r, hr, rfl⟩ := List.mem_map.1 he
      have := (r4 _ (r6 r hr)).2 he
      rw [fC_is, ← h5] at this
      obtain ⟨i, i1, i2, i3, i4, i5⟩ := (lives_iff _ _ _ _).1 this
      refine List.mem_map.2 ⟨(i, gs.getD i 0), (hs.alive _).2 ?_, ?_⟩
      · rw [← i1, ← i5]; exact this
      · exact Prod.ext i1.symm i5.symm
    · intro he
      obtain ⟨p, hp, rfl⟩ := List.mem_map.1 he
      have hl := (hs.alive p).1 hp
      refine (r4 _ (inb_of ho hl)).1 ?_
      rw [fC_is, ← h5]
      exact hl)
  have hlen := hp.length_eq
  rw [List.length_map, List.length_map, alive_len hs.1] at hlen
  exact ⟨⟨a, c, by rw [hlen]⟩, hb⟩
end
/-- All of it: the world, all that were given and which of them are there (A, O), and the two lists in memory. -/
def Sx (w : World) (gw t : Nat) (W : World) (own : Nat → Nat) (v6 v7 : Value) (gs fr : List Nat) (C : Co) (all : List (Nat × Nat)) (onl : List Bool) (A : List (Nat × Nat)) (O : List Bool) : Prop :=
  Wn W own gw (4 * t) usualK gs fr C ∧ Sl t gs fr A O ∧ W.ownsRow w.heap.size 29 2 v6 all.length (ec all) ∧ W.ownsRow w.heap.size 4 1 v7 onl.length (bz onl) ∧ (∀ k, v6.ownBlock = some k → own k = 0) ∧ (∀ k, v7.ownBlock = some k → own k = 0) ∧ Fr w W own
section
variable {w W W' W1 : World} {own own' : Nat → Nat} {gw t : Nat} {v6 v7 : Value} {gs fr : List Nat} {C : Co} {all A : List (Nat × Nat)} {onl O : List Bool}
theorem Sx.later (h : Sx w gw t W own v6 v7 gs fr C all onl A O) (hb : Below W.heap.size W W') : Sx w gw t W' (rel own W 0) v6 v7 gs fr C all onl A O := by
  obtain ⟨h1, h2, h3, h4, h5, h6, h7⟩ := h
  exact ⟨h1.later hb, h2, own_later h3 hb, own_later h4 hb, fun k e => (rel_old (h3.lt k e).2).trans (h5 k e), fun k e => (rel_old (h4.lt k e).2).trans (h6 k e), h7.later hb⟩
theorem Sx.turn (h : Sx w gw t W own v6 v7 gs fr C all onl A O) (hk : Wk own own' W W') {gs' fr' : List Nat} {C' : Co} {t' : Nat} {A' : List (Nat × Nat)} {O' : List Bool} (hw : Wn W' own' gw (4 * t') usualK gs' fr' C') (hs : Sl t' gs' fr' A' O') : Sx w gw t' W' own' v6 v7 gs' fr' C' all onl A' O' := by
  obtain ⟨h1, h2, h3, h4, h5, h6, h7⟩ := h
  exact ⟨hw, hs, hk.mv.own h3 (fun k e e2 => e2 (h5 k e)), hk.mv.own h4 (fun k e e2 => e2 (h6 k e)), fun k e => (hk.1 k (h3.lt k e).2).trans (h5 k e), fun k e => (hk.1 k (h4.lt k e).2).trans (h6 k e), h7.wk hk⟩
theorem Fr.frame {S : Nat → Prop} (h : Fr w W own) (hm : Mv W W' S) (hS : ∀ k, S k → w.heap.size ≤ k) : Fr w W' (rel own W 0) := ⟨h.1.trans (hm.below h.1.size hS), fun k hk => (rel_old (Nat.lt_of_lt_of_le hk h.1.size)).trans (h.2 k hk)⟩
theorem oc0 (a : Option Addr) (c : Nat) : comeL usualK 0 [(((0 : Nat) : Int) + 1, a, c4 0, c)] = 0 := by kernel_rfl
theorem oc1 (a : Option Addr) (c : Nat) : comeL usualK 0 [(((1 : Nat) : Int) + 1, a, c4 1, c)] = 0 := by kernel_rfl
theorem oc2 (a : Option Addr) (c : Nat) : comeL usualK 0 [(((2 : Nat) : Int) + 1, a, c4 2, c)] = 0 := by kernel_rfl
theorem oc3 (a : Option Addr) (c : Nat) : comeL usualK 0 [(((3 : Nat) : Int) + 1, a, c4 3, c)] = 0 := by kernel_rfl
theorem one_come (kk : Nat) (hk : kk < 4) (a : Option Addr) (n c : Nat) (hn : n = c4 kk) : comeL usualK 0 [((kk : Int) + 1, a, n, c)] = 0 := by
  subst hn
  match kk, hk with
  | 0, _ => exact oc0 a c
  | 1, _ => exact oc1 a c
  | 2, _ => exact oc2 a c
  | 3, _ => exact oc3 a c
/-- What a Spawn of one part leaves. -/
def Spawned (w : World) (gw t : Nat) (v6 v7 : Value) (all : List (Nat × Nat)) (onl : List Bool) (e : Ending) (w' : World) : Prop :=
  (cntB onl < 200 ∧ ∃ p : Nat × Nat, e = .returned (.tuple #[.agg #[.int .i64 (p.1 : Int), .int .i64 (p.2 : Int)], .int .i64 0]) ∧ p ∉ all ∧ Hid (∃ own' gs' fr' C', Sx w gw (t + 1) w' own' v6 v7 gs' fr' C' all onl (all ++ [p]) (onl ++ [true]))) ∨
  (cntB onl = 200 ∧ e = .returned (.tuple #[.agg #[.int .i64 0, .int .i64 0], .int .i64 40]) ∧ Hid (∃ own' gs' fr' C', Sx w gw (t + 1) w' own' v6 v7 gs' fr' C' all onl all onl))
theorem Sx.spawn {w2 w3 : World} (h : Sx w gw t W own v6 v7 gs fr C all onl all onl) (ht : t ≤ 300) (hb : Below W.heap.size W w2) (kk : Nat) (hk : kk < 4) (y : Int) (a : Option Addr) (n c : Nat) (ho : w2.ownsRow W.heap.size 2 1 (.slice a n c) (c4 kk) (zc (valsN y (c4 kk)))) (hw3 : w3 = w2.alloc (.cells #[.int .i64 ((kk : Int) + 1), .slice a n c] 32)) :
    Calls Tryz.prog 24 #[.pointer (some ⟨gw, 0, none⟩), .slice (some ⟨w2.heap.size, 0, none⟩) 1 1] w3 fun e w' => Spawned w gw t v6 v7 all onl e w' := by
  have hb3 : Below w2.heap.size w2 w3 := hw3 ▸ below_alloc w2 _
  have hx3 : w3.heap[w2.heap.size]? = some (.cells #[.int .i64 ((kk : Int) + 1), .slice a n c] 32 (0, 0)) := by rw [hw3]; exact heap_alloc_new w2 _
  have h3 := h.later (below_on hb hb3)
  have ho3 := own_later ho hb3
  have hn : n = c4 kk := by
    obtain ⟨x, z, e⟩ := own_len ho
    simp only [Value.slice.injEq] at e
    exact e.2.1
  have hrp : Rp w3 (.slice (some ⟨w2.heap.size, 0, none⟩) 1 1) [((kk : Int) + 1, a, n, c)] := by
    refine .inr ⟨_, 0, 1, rfl, Nat.le_refl 1, by unfold maxLen; omega, fun j u hj => ?_⟩
    rw [Nat.zero_add, cell_of_row w3 _ j _ 32 (0, 0) hx3]
    simpa [pz] using hj
  have hcome := one_come kk hk a n c hn
  have hok := h3.1.ok
  have hsb := hb.size
  have hlt := lt_of_block hx3
  by_cases hroom : fr ≠ [] ∨ gs.length < 200
  · refine (h3.1.spawn (by omega) hroom _ [((kk : Int) + 1, a, n, c)] (fun _ => valsN y (c4 kk)) hrp hcome ?_ ?_ ?_ ?_).mono ?_
    · intro k e
      simp only [Value.ownBlock, Option.some.injEq] at e
      subst e
      exact ⟨rel_new hsb, hlt⟩
    · intro p hp
      rw [List.mem_singleton.1 hp]
      refine ⟨?_, fun e => ?_⟩
      · have := Iz.own (l := valsN y (c4 kk)) (by rw [valsN_len]; exact ho3)
        exact this
      · rcases ho3.2 with ⟨e', -⟩ | ⟨g, c', cur, e', -⟩
        · simp only [Value.slice.injEq] at e'
          exact Prod.ext e'.2.1 e'.2.2
        · simp only [Value.slice.injEq] at e'
          dsimp only at e
          rw [e] at e'
          cases e'.1
    · intro p hp k e
      rw [List.mem_singleton.1 hp] at e
      have := ho3.lt k e
      exact ⟨rel_new this.1, this.2⟩
    · intro p _
      exact valsN_fit _ _
    · rintro e w' ⟨rfl, vals, own', r1, r2, -⟩
      refine .inl ⟨h3.2.1.room hok hroom, takeE gs fr, rfl, take_fresh h3.2.1, own', _, _, _, h3.turn r2 (r1.up (by omega)) (h3.2.1.take hok hroom)⟩
  · have hf : fr = [] := by
      by_cases c : fr = []
      · exact c
      · exact absurd (.inl c) hroom
    have hg : gs.length = 200 := by
      have := hok.2.2.1
      by_cases c : gs.length < 200
      · exact absurd (.inr c) hroom
      · omega
    refine (h3.1.spawn_full hf hg _ _ hrp hcome).mono ?_
    rintro e w' ⟨rfl, hb4⟩
    have h4 := h3.later hb4
    exact .inr ⟨h3.2.1.full (by omega) hf hg, rfl, _, gs, fr, C, h4.1.up (by omega), h4.2.1.more, h4.2.2⟩
theorem Sx.despawn (h : Sx w gw t W own v6 v7 gs fr C all onl all onl) (ht : t ≤ 300) (k : Nat) (k1 : k < all.length) (k2 : k < onl.length) :
    Calls Tryz.prog 31 #[.pointer (some ⟨gw, 0, none⟩), .agg #[.int .i64 (all[k].1 : Int), .int .i64 (all[k].2 : Int)]] W fun e w' => e = .returned (.int .i64 (if onl[k] then 0 else 41)) ∧ Hid (∃ own' gs' fr' C', Sx w gw (t + 1) w' own' v6 v7 gs' fr' C' all onl all (onl.set k false)) := by
  have hlv : (C ((all[k].1 : Int), (all[k].2 : Int))).isSome = onl[k] := by
    obtain ⟨vk, gp, gm, gt, q, T, _, _, _, _, h5, _⟩ := h.1
    rw [← h5]
    exact h.2.1.2.2.2.2.2.1 k k1 k2
  cases hk : onl[k] with
  | false =>
    rw [hk] at hlv
    refine (h.1.despawn_stale _ _ hlv).mono ?_
    rintro e w' ⟨rfl, hb⟩
    have h4 := h.later hb
    have es : onl.set k false = onl := by
      refine List.ext_getElem (by simp) (fun j j1 j2 => ?_)
      by_cases c : k = j
      · subst c
        rw [List.getElem_set_self, hk]
      · rw [List.getElem_set_ne c]
    rw [es]
    exact ⟨rfl, _, gs, fr, C, h4.1.up (by omega), h4.2.1.more, h4.2.2⟩
  | true =>
    obtain ⟨a1, a2, a3, a4, a5⟩ := h.2.1.at (by omega) k k1 k2 hk
    rw [hk] at hlv
    rw [← a2] at hlv ⊢
    refine (h.1.despawn (by omega) hlv a1 a3 a4).mono ?_
    rintro e w' ⟨rfl, own', r1, r2⟩
    exact ⟨rfl, own', _, _, _, h.turn r2 (r1.up (by omega)) (h.2.1.give (by omega) k k1 k2 hk)⟩
end
end Go.Proofs.YtafmiolehlagkaaGreat
