/-
  Clone.
-/
import Derived.Test.YtejbdhbphbgckaaFence
namespace Go.Proofs.Ytejbdhbphbgckaa
open Go.RowKit
set_option maxHeartbeats 1000000 in
theorem clone_ents (v : Value) (l : List (Nat × Nat)) (w : World) (h : w.ownsRow 0 41 2 v l.length (ec l)) (hn : l.length ≤ 1000000) :
    Calls Try.prog 35 #[v] w fun e w' => ∃ v', e = .returned v' ∧ w'.ownsRow w.heap.size 41 2 v' l.length (ec l) ∧ Below w.heap.size w w' := by
  obtain ⟨i0, hi, hz0, hz1, hz2⟩ := info_parts info41
  have q47 : ∀ (w : World) (a : Option Addr) (n c n' c' : Nat), (binOp .eql 47 (.slice a n c) (.slice none n' c')).run Try.prog w = .ok (.bool a.isNone) w := fun w a n c n' c' => Lib.run_eql_slice_nil w _ _ a n c n' c' Try.underlying47
  rcases h.2 with ⟨rfl, hl⟩ | ⟨g, cap, cur, rfl, -, hg, h1, h2, hcs, htake⟩
  · obtain rfl : l = [] := List.eq_nil_of_length_eq_zero (by omega)
    clear h hl
    go_enter Try.func35, Try.ntmps35
    go_wp2_with fail
    go_ret
    exact ⟨_, rfl, World.ownsRow_nil _ _ _ _, Below.refl _ _⟩
  · have H := hide h
    clear h hg hcs htake
    go_enter Try.func35, Try.ntmps35
    go_wp2_with (at_builtin; refine wpList_append_own_at _ rfl _ _ 47 rfl w.heap.size 41 i0 (.agg #[.int .i64 0, .int .i64 0]) 2 16 Try.underlying47 hi hz0 hz1 hz2 rfl (by decide) _ 0 [] rfl (World.ownsRow_lit w #[] 0 (Nat.le_refl _) (Nat.zero_le _) rfl) ⟨g, 0, none⟩ l.length cap (ec l) rfl (by rw [ec_len]) ?c1 (ec_one l) (by unfold maxLen; omega) (by omega) (by simp) ?_)
    case c1 => exact (H.out.alloc _).cells rfl
    intro v' w' ho hg _ _
    obtain ⟨ao, c, rfl⟩ := own_len ho
    have HO := hide ho
    have HG := hide hg
    clear ho hg
    go_wp2_with fail
    go_ret
    refine ⟨_, rfl, ?_, (below_alloc w _).grown HG.out (by simp) (fun k e => ?_)⟩
    · have := HO.out
      simpa using this
    · simp [Value.ownBlock] at e
      omega
set_option maxHeartbeats 4000000 in
set_option maxRecDepth 100000 in
theorem cloned_pm (g n : Nat) (vg vl vf : Value) (gs fr : List Nat) (lv : List (Nat × Nat)) (w : World) (h : Pm w g n vg vl vf gs fr lv) (hg : gs.length ≤ 1000000) (hl : lv.length ≤ 1000000) (hf : fr.length ≤ 1000000) :
    Calls Try.prog 24 #[.pointer (some ⟨g, 0, none⟩)] w fun e w' => ∃ g' v1 v2 v3, e = .returned (.pointer (some ⟨g', 0, none⟩)) ∧ Pm w' g' n v1 v2 v3 gs fr lv ∧ (∀ k, k = g' ∨ v1.ownBlock = some k ∨ v2.ownBlock = some k ∨ v3.ownBlock = some k → w.heap.size ≤ k) ∧ Below w.heap.size w w' := by
  obtain ⟨c0, c1, c2, c3⟩ := h.cell
  have J1 : Hid (∀ W, Below w.heap.size w W → Calls Try.prog 30 #[vg] W fun e w' => ∃ v', e = .returned v' ∧ Hid (w'.ownsRow w.heap.size 3 1 v' gs.length (ic gs) ∧ Below w.heap.size w w') ∧ w'.cell? ⟨g, 0, none⟩ = some (.int .i64 (n : Int)) ∧ w'.cell? ⟨g, 1, none⟩ = some vg ∧ w'.cell? ⟨g, 2, none⟩ = some vl ∧ w'.cell? ⟨g, 3, none⟩ = some vf) := fun W hW =>
    (clone_any vg gs.length gs W (own_later h.2.1 hW) hg).mono (by
      rintro e w' ⟨v', rfl, ho, hb⟩
      have hx := below_on hW hb
      exact ⟨v', rfl, ⟨own_lower ho hW.size, hx⟩, (h.later hx).cell⟩)
  have J2 : Hid (∀ W v1, W.ownsRow w.heap.size 3 1 v1 gs.length (ic gs) → Below w.heap.size w W → Calls Try.prog 35 #[vl] W fun e w' => ∃ v', e = .returned v' ∧ Hid (w'.ownsRow w.heap.size 3 1 v1 gs.length (ic gs) ∧ w'.ownsRow w.heap.size 41 2 v' lv.length (ec lv) ∧ Ap v1 v' ∧ Below w.heap.size w w') ∧ w'.cell? ⟨g, 0, none⟩ = some (.int .i64 (n : Int)) ∧ w'.cell? ⟨g, 1, none⟩ = some vg ∧ w'.cell? ⟨g, 2, none⟩ = some vl ∧ w'.cell? ⟨g, 3, none⟩ = some vf) := fun W v1 h1 hW =>
    (clone_ents vl lv W (own_later h.2.2.1 hW) hl).mono (by
      rintro e w' ⟨v', rfl, ho, hb⟩
      have hx := below_on hW hb
      refine ⟨v', rfl, ⟨own_later h1 hb, own_lower ho hW.size, fun k e1 e2 => ?_, hx⟩, (h.later hx).cell⟩
      have := (h1.lt k e1).2
      have := (ho.lt k e2).1
      omega)
  have J3 : Hid (∀ W v1 v2, W.ownsRow w.heap.size 3 1 v1 gs.length (ic gs) → W.ownsRow w.heap.size 41 2 v2 lv.length (ec lv) → Ap v1 v2 → Below w.heap.size w W → Calls Try.prog 30 #[vf] W fun e w' => ∃ v', e = .returned v' ∧ Hid (w'.ownsRow w.heap.size 3 1 v1 gs.length (ic gs) ∧ w'.ownsRow w.heap.size 41 2 v2 lv.length (ec lv) ∧ w'.ownsRow w.heap.size 3 1 v' fr.length (ic fr) ∧ Ap v1 v2 ∧ Ap v1 v' ∧ Ap v2 v' ∧ Below w.heap.size w w') ∧ w'.cell? ⟨g, 0, none⟩ = some (.int .i64 (n : Int)) ∧ w'.cell? ⟨g, 1, none⟩ = some vg ∧ w'.cell? ⟨g, 2, none⟩ = some vl ∧ w'.cell? ⟨g, 3, none⟩ = some vf) := fun W v1 v2 h1 h2 h12 hW =>
    (clone_any vf fr.length fr W (own_later h.2.2.2.1 hW) hf).mono (by
      rintro e w' ⟨v', rfl, ho, hb⟩
      have hx := below_on hW hb
      refine ⟨v', rfl, ⟨own_later h1 hb, own_later h2 hb, own_lower ho hW.size, h12, fun k e1 e2 => ?_, fun k e1 e2 => ?_, hx⟩, (h.later hx).cell⟩
      · have := (h1.lt k e1).2
        have := (ho.lt k e2).1
        omega
      · have := (h2.lt k e1).2
        have := (ho.lt k e2).1
        omega)
  clear h
  go_enter Try.func24, Try.ntmps24
  go_wp2_with fail
  go_region_held3 (fun W => W.cell? ⟨g, 0, none⟩ = some (.int .i64 (n : Int)) ∧ W.cell? ⟨g, 1, none⟩ = some vg ∧ W.cell? ⟨g, 2, none⟩ = some vl ∧ W.cell? ⟨g, 3, none⟩ = some vf) (go_keep) (first | (go_at_call 35; refine (J2.out _ _ HH.out.1 HH.out.2).mono ?_; rintro e w2 ⟨v2, rfl, HH2, x0, x1, x2, x3⟩; obtain ⟨a2, k2, rfl⟩ := own_len HH2.out.2.1) | (go_at_call 30; refine (J3.out _ _ _ HH2.out.1 HH2.out.2.1 HH2.out.2.2.1 HH2.out.2.2.2).mono ?_; rintro e w3 ⟨v3, rfl, HH3, y0, y1, y2, y3⟩; obtain ⟨a3, k3, rfl⟩ := own_len HH3.out.2.2.1) | (go_at_call 30; refine (J1.out _ (below_drew w)).mono ?_; rintro e w1 ⟨v1, rfl, HH, d0, d1, d2, d3⟩; obtain ⟨a1, k1, rfl⟩ := own_len HH.out.1))
  all_goals
    go_wp2_with fail
    go_ret
    obtain ⟨r1, r2, r3, r4, r5, r6, r7⟩ := HH3.out
    have hba := below_alloc w3 (.cells #[.int .i64 (n : Int), .slice a1 gs.length k1, .slice a2 lv.length k2, .slice a3 fr.length k3] 59)
    have hs := r7.size
    have hn : ∀ (v : Value), (∀ k, v.ownBlock = some k → k < w3.heap.size) → v.ownBlock ≠ some w3.heap.size := fun v hv e => by have := hv _ e; omega
    refine ⟨w3.heap.size, _, _, _, rfl, ⟨heap_alloc_new w3 _, own_lower (own_later r1 hba) (Nat.zero_le _), own_lower (own_later r2 hba) (Nat.zero_le _), own_lower (own_later r3 hba) (Nat.zero_le _), ⟨hn _ (fun k e => (r1.lt k e).2), hn _ (fun k e => (r2.lt k e).2), hn _ (fun k e => (r3.lt k e).2)⟩, r4, r5, r6⟩, fun k e => ?_, below_on r7 hba⟩
    rcases e with rfl | e | e | e
    · exact hs
    · exact (r1.lt k e).1
    · exact (r2.lt k e).1
    · exact (r3.lt k e).1
theorem cloned_any {w : World} {S : Nat → Prop} {g n : Nat} {gs fr : List Nat} (h : Pl w S g n gs fr) :
    Calls Try.prog 24 #[.pointer (some ⟨g, 0, none⟩)] w fun e w' => ∃ g', e = .returned (.pointer (some ⟨g', 0, none⟩)) ∧ Pl w' (fun k => w.heap.size ≤ k) g' n gs fr ∧ Below w.heap.size w w' := by
  obtain ⟨⟨vg, vl, vf, hp, _⟩, ho⟩ := h
  have h1 := ho.2.2.1
  have h2 := ho.2.1
  have h3 := ho.free_len
  refine (cloned_pm g n vg vl vf gs fr _ w hp (by omega) (by rw [lvOf_len]; omega) (by omega)).mono ?_
  rintro e w' ⟨g', v1, v2, v3, rfl, q1, q2, q3⟩
  exact ⟨g', rfl, ⟨⟨v1, v2, v3, q1, q2 _ (.inl rfl), fun k e => q2 k (.inr (.inl e)), fun k e => q2 k (.inr (.inr (.inl e))), fun k e => q2 k (.inr (.inr (.inr e)))⟩, ho⟩, q3⟩
end Go.Proofs.Ytejbdhbphbgckaa
