/-
  slices.Clone of entities, maps.Clone.
-/
import Derived.Test.YtlnjphfkinajdaaSet
import Derived.Shelf.SlMaps.Clone
namespace Go.Proofs.Ytlnjphfkinajdaa
open Go.RowKit Go.Maps
theorem ez_one : ∀ l : List (Int × Int), ∀ u ∈ ez l, u.oneCell' = true
  | [], _, h => by cases h
  | p :: t, v, h => by
    simp only [ez, List.mem_cons] at h
    rcases h with rfl | rfl | h
    · rfl
    · rfl
    · exact ez_one t v h
set_option maxHeartbeats 1000000 in
theorem clone_ents (v : Value) (l : List (Int × Int)) (w : World) (h : w.ownsRow 0 32 2 v l.length (ez l)) (hn : l.length ≤ 1000000) :
    Calls Try.prog 28 #[v] w fun e w' => ∃ v', e = .returned v' ∧ w'.ownsRow w.heap.size 32 2 v' l.length (ez l) ∧ Below w.heap.size w w' := by
  obtain ⟨i0, hi, hz0, hz1, hz2⟩ := info_parts info32
  have q72 : ∀ (w : World) (a : Option Addr) (n c n' c' : Nat), (binOp .eql 72 (.slice a n c) (.slice none n' c')).run Try.prog w = .ok (.bool a.isNone) w := fun w a n c n' c' => Lib.run_eql_slice_nil w _ _ a n c n' c' Try.underlying72
  rcases h.2 with ⟨rfl, hl⟩ | ⟨g, cap, cur, rfl, -, hg, h1, h2, hcs, htake⟩
  · obtain rfl : l = [] := List.eq_nil_of_length_eq_zero (by omega)
    clear h hl
    go_enter Try.func28, Try.ntmps28
    go_wp2_with fail
    go_ret
    exact ⟨_, rfl, World.ownsRow_nil _ _ _ _, Below.refl _ _⟩
  · have H := hide h
    clear h hg hcs htake
    go_enter Try.func28, Try.ntmps28
    go_wp2_with (at_builtin; refine wpList_append_own_at _ rfl _ _ 72 rfl w.heap.size 32 i0 (.agg #[.int .i64 0, .int .i64 0]) 2 16 Try.underlying72 hi hz0 hz1 hz2 rfl (by decide) _ 0 [] rfl (World.ownsRow_lit w #[] 0 (Nat.le_refl _) (Nat.zero_le _) rfl) ⟨g, 0, none⟩ l.length cap (ez l) rfl (by rw [ez_len]) ?c1 (ez_one l) (by unfold maxLen; omega) (by omega) (by simp) ?_)
    case c1 => exact (H.out.alloc _).cells rfl
    intro v' w' ho hg _ _
    obtain ⟨ao, c, rfl⟩ := own_len ho
    have HO := hide ho
    have HG := hide hg
    clear ho hg
    go_wp2_with fail
    go_ret
    refine ⟨_, rfl, ?_, (below_alloc w _).grown HG.out (by simp) (fun k e => ?_)⟩
    · have := HO.out
      simpa using this
    · simp [Value.ownBlock] at e
      omega
set_option maxHeartbeats 1000000 in
theorem clone_map (gm n : Nat) (f : Int × Int → Option Nat) (w : World) (h : Mp w gm n f) :
    Calls Try.prog 29 #[.map (some gm)] w fun e w' => ∃ g', e = .returned (.map (some g')) ∧ w.heap.size = g' ∧ Mp w' g' n f ∧ Below w.heap.size w w' := by
  obtain ⟨D, ⟨es, ck, hb, hr⟩, hD⟩ := h
  have hfin : Hid (Mp (w.alloc (.map es ck)) w.heap.size n f) := ⟨D, ⟨es, ck, heap_alloc_new w _, hr⟩, hD⟩
  have hq := fun w => run_eql_map_nil_sl (P := Try.prog) w 71 _ _ (some gm) Try.underlying71
  clear hr hD
  go_enter Try.func29, Try.ntmps29
  go_wp2
  rw [run_callFunc_extern Try.func39 (by kernel_rfl) (by kernel_rfl) (by kernel_rfl) (e := Extern.MapsClone.clone) (by kernel_rfl), run_maps_clone_sl w 71 hb]
  simp only [Result.andThen]
  rw [Oper.upon_value]
  go_wp2
  rw [run_typeAssert_map_sl _ 71 _ _ _ _ Try.underlying71]
  simp only [Result.andThen]
  rw [Oper.upon_value]
  go_wp2
  go_ret
  exact ⟨_, rfl, rfl, hfin.out, below_alloc w _⟩
end Go.Proofs.Ytlnjphfkinajdaa
