/-
  World: slices.Clone of texts.
-/
import Derived.Test.YtafmiolehlagkaaGreatWUsual
import Derived.Test.YtafmiolehlagkaaGreatWClo
namespace Go.Proofs.YtafmiolehlagkaaGreat
open Go.RowKit
set_option maxRecDepth 100000
theorem info9 : (Tryz.prog.info? 9).map (fun i => (i.zero, i.size, i.bytes)) = some (some (.string ⟨#[]⟩), 1, 16) := by kernel_rfl
def sz (l : List ByteArray) : List Value := l.map Value.string
theorem sz_len (l : List ByteArray) : (sz l).length = l.length := by simp [sz]
theorem sz_one (l : List ByteArray) : ∀ u ∈ sz l, u.oneCell' = true := by
  intro u hu
  simp only [sz, List.mem_map] at hu
  obtain ⟨x, -, rfl⟩ := hu
  rfl
theorem sz_at (l : List ByteArray) (i : Nat) (h : i < l.length) : (sz l)[i]? = some (.string l[i]) := by simp [sz, h]
theorem Sr.own {w : World} {v : Value} {l : List ByteArray} {B : Nat} (h : w.ownsRow B 9 1 v l.length (sz l)) : Sr w v l := by
  rcases h.2 with ⟨rfl, hl⟩ | ⟨g, c, cur, rfl, -, hg, h1, h2, hcs, htake⟩
  · obtain rfl := List.eq_nil_of_length_eq_zero hl
    exact ⟨none, 0, rfl, Nat.le_refl _, Nat.zero_le _, fun j hj => absurd hj (by simp)⟩
  · refine ⟨_, c, rfl, h1, h2, fun j hj => ⟨g, 0, rfl, ?_⟩⟩
    rw [Nat.zero_add, h.cellAt j (by omega), sz_at l j hj]
set_option maxHeartbeats 1000000 in
theorem clone_texts (v : Value) (l : List ByteArray) (w : World) (h : Sr w v l) (hn : l.length ≤ 1000000) :
    Calls Tryz.prog 145 #[v] w fun e w' => ∃ v', e = .returned v' ∧ w'.ownsRow w.heap.size 9 1 v' l.length (sz l) ∧ Below w.heap.size w w' := by
  obtain ⟨i0, hi, hz0, hz1, hz2⟩ := info_parts info9
  have q41 : ∀ (w : World) (a : Option Addr) (n c n' c' : Nat), (binOp .eql 41 (.slice a n c) (.slice none n' c')).run Tryz.prog w = .ok (.bool a.isNone) w := fun w a n c n' c' => Lib.run_eql_slice_nil w _ _ a n c n' c' Tryz.underlying41
  obtain ⟨ao, c, rfl, h1, h2, h3⟩ := h
  cases ao with
  | none =>
    obtain rfl : l = [] := by
      cases l with
      | nil => rfl
      | cons x t =>
        obtain ⟨g, o, e, -⟩ := h3 0 (by simp)
        cases e
    clear h3
    go_enter Tryz.func145, Tryz.ntmps145
    go_wp2_with fail
    go_ret
    exact ⟨_, rfl, World.ownsRow_nil _ _ _ _, Below.refl _ _⟩
  | some ad =>
    have H : Hid (∀ j u, (sz l)[j]? = some u → (w.alloc (.cells #[] 9)).cell? (ad.add j) = some u) := fun j u hj => by
      have hj2 : j < l.length := by
        have := (List.getElem?_eq_some_iff.1 hj).1
        rwa [sz_len] at this
      rw [sz_at l j hj2] at hj
      obtain ⟨g', o', e3, z4⟩ := h3 j hj2
      obtain rfl := Option.some.inj e3
      rw [add_at, ← Option.some.inj hj]
      exact ((below_alloc w _).cell (p := ⟨g', o' + j, none⟩) (World.block_lt_of_cell? w _ z4)).trans z4
    clear h3
    go_enter Tryz.func145, Tryz.ntmps145
    go_wp2_with (at_builtin; refine wpList_append_own_at _ rfl _ _ 41 rfl w.heap.size 9 i0 (.string ⟨#[]⟩) 1 16 Tryz.underlying41 hi hz0 hz1 hz2 rfl (by decide) _ 0 [] rfl (World.ownsRow_lit w #[] 0 (Nat.le_refl _) (Nat.zero_le _) rfl) ad l.length c (sz l) rfl (by rw [sz_len]; omega) H.out (sz_one l) (by unfold maxLen; omega) (by omega) (by simp) ?_)
    intro v' w' ho hg _ _
    obtain ⟨ao, c, rfl⟩ := own_len ho
    have HO := hide ho
    have HG := hide hg
    clear ho hg
    go_wp2_with fail
    go_ret
    refine ⟨_, rfl, ?_, (below_alloc w _).grown HG.out (by simp) (fun k e => ?_)⟩
    · have := HO.out
      simpa using this
    · simp [Value.ownBlock] at e
      omega
end Go.Proofs.YtafmiolehlagkaaGreat
