/-
  The document's Take of a new number; its Give.
-/
import Derived.Test.YtejbdhbphbgckaaDocTake
namespace Go.Proofs.Ytejbdhbphbgckaa
open Go.RowKit
set_option maxHeartbeats 4000000 in
set_option maxRecDepth 100000 in
theorem dnew_walk (g n : Nat) (vg vo vf : Value) (hs : List Nat) (os : List Bool) (w : World) (h : Dm w g n vg vo vf hs os []) (hlt : hs.length < n) (hn : n ≤ 1000000) (ho : os.length ≤ 1000000) :
    Calls Try.prog 19 #[.pointer (some ⟨g, 0, none⟩)] w fun e w' => e = .returned (.tuple #[ev (hs.length, 1), .int .i64 0]) ∧ ∃ vg' vo', Dm w' g n vg' vo' vf (hs ++ [1]) (os ++ [true]) [] ∧ (∀ k, vg'.ownBlock = some k → vg.ownBlock = some k ∨ w.heap.size ≤ k) ∧ (∀ k, vo'.ownBlock = some k → vo.ownBlock = some k ∨ w.heap.size ≤ k) ∧ Mv w w' (fun k => k = g ∨ vg.ownBlock = some k ∨ vo.ownBlock = some k) := by
  obtain ⟨i3, hi3, hx0, hx1, hx2⟩ := info_parts info3
  obtain ⟨i4, hi4, hy0, hy1, hy2⟩ := info_parts info4
  have hba := below_alloc w (.cells #[.int .i64 0, .int .i64 0] 41)
  obtain ⟨aof, cf, rfl, -, -⟩ := h.2.2.2.1.len
  obtain ⟨aog, cg, rfl⟩ := own_len h.2.1
  obtain ⟨aoo, co, rfl⟩ := own_len h.2.2.1
  obtain ⟨c0, c1, c2, c3⟩ := (h.later hba).cell
  have hgw := h.lt
  have d1 : decide ((n : Int) ≤ (hs.length : Int)) = false := by simp; omega
  have d2 : decide (n ≤ hs.length) = false := by simp; omega
  have d3 : ¬ (n : Int) ≤ (hs.length : Int) := by omega
  have hgl := h.2.1.lt
  have hol := h.2.2.1.lt
  have H := hide h
  have HGL := hide hgl
  have HOL := hide hol
  clear h hba hgl hol
  go_enter Try.func19, Try.ntmps19
  go_wp2_with fail
  go_quiet (fail)
  go_upto_region 9 with fail
  obtain ⟨w1, hw1⟩ : ∃ X, X = (w.alloc (.cells #[.int .i64 0, .int .i64 0] 41)).drewN nq := ⟨_, rfl⟩
  have hb1 : Below w.heap.size w w1 := hw1 ▸ below_on (below_alloc w _) (below_drawn _ _)
  have bx1 : w1.heap[w.heap.size]? = some (.cells #[.int .i64 0, .int .i64 0] 41 (0, 0)) := hw1 ▸ ((below_drawn _ nq).block _ (by simp)).trans (heap_alloc_new w _)
  rw [← hw1]
  have hsz1 : w.heap.size + 1 ≤ w1.heap.size := lt_of_block bx1
  have h1 := H.out.later hb1
  clear hw1 c0 c1 c2 c3
  obtain ⟨-, c1, c2, c3⟩ := h1.cell
  have H1 := hide h1
  have HB1 := hide hb1
  clear h1 hb1
  go_wp2_with (at_builtin; refine wpList_append_lies _ rfl _ _ 33 rfl 0 3 i3 (.int .i64 0) 1 8 Try.underlying33 hi3 hx0 hx1 hx2 rfl (by decide) _ _ _ rfl (H1.out.2.1.alloc _) ⟨w1.heap.size, 0, none⟩ 1 1 [.int .i64 1] rfl rfl ?a1 ?a2 (by omega) (by unfold maxLen; omega) (by omega) (Nat.zero_le _) _ rfl ?_)
  case a1 =>
    intro j u hj
    match j, hj with
    | 0, hj => simp at hj; subst hj; simp [Addr.add]
  case a2 =>
    intro u hu
    simp at hu
    subst hu
    rfl
  intro g9 c9 w9 ho9 hg9 ha9 _
  obtain ⟨p1, p2, p3, p4⟩ := H1.out.grow_gens (below_alloc w1 _) (x := 1) ho9 hg9 (by simpa using ha9)
  have x1 : w9.cell? ⟨g, 1, none⟩ = some (.slice aog hs.length cg) := (cell_of_row w9 g 1 _ 62 (0, 0) p1).trans rfl
  have y1 : w9.frozen? ⟨g, 1, none⟩ = false := frozen_of_row w9 g 1 _ 62 p1
  have bx9 : (w9.setCell ⟨g, 1, none⟩ (.slice (some ⟨g9, 0, none⟩) (hs.length + 1) c9)).heap[w.heap.size]? = some (.cells #[.int .i64 0, .int .i64 0] 41 (0, 0)) := p4.at bx1 (fun e => by
    rcases e with e | e
    · omega
    · have := (HGL.out _ e).2
      omega)
  have P2 := hide p2
  have P3 := hide p3
  have P4 := hide p4
  clear ho9 hg9 ha9 p1 p2 p3 p4 c1 c2 c3
  go_upto_region 10 with fail
  obtain ⟨w2, hw2⟩ : ∃ X, X = w9.setCell ⟨g, 1, none⟩ (.slice (some ⟨g9, 0, none⟩) (hs.length + 1) c9) := ⟨_, rfl⟩
  rw [← hw2] at P2 P4 bx9 ⊢
  clear hw2 x1 y1
  obtain ⟨-, c1, c2, c3⟩ := P2.out.cell
  have hsz2 := P4.out.size
  go_wp2_with (at_builtin; refine wpList_append_lies _ rfl _ _ 60 rfl 0 4 i4 (.bool false) 1 1 Try.underlying60 hi4 hy0 hy1 hy2 rfl (by decide) _ _ _ rfl (P2.out.2.2.1.alloc _) ⟨w2.heap.size, 0, none⟩ 1 1 [.bool true] rfl rfl ?b1 ?b2 (by omega) (by unfold maxLen; omega) (by omega) (Nat.zero_le _) _ rfl ?_)
  case b1 =>
    intro j u hj
    match j, hj with
    | 0, hj => simp at hj; subst hj; simp [Addr.add]
  case b2 =>
    intro u hu
    simp at hu
    subst hu
    rfl
  intro g8 c8 w8 ho8 hg8 ha8 _
  obtain ⟨p1, p2, p3, p4⟩ := P2.out.grow_ons (below_alloc w2 _) (x := true) ho8 hg8 (by simpa using ha8)
  have x1 : w8.cell? ⟨g, 2, none⟩ = some (.slice aoo os.length co) := (cell_of_row w8 g 2 _ 62 (0, 0) p1).trans rfl
  have y1 : w8.frozen? ⟨g, 2, none⟩ = false := frozen_of_row w8 g 2 _ 62 p1
  have bx8 : (w8.setCell ⟨g, 2, none⟩ (.slice (some ⟨g8, 0, none⟩) (os.length + 1) c8)).heap[w.heap.size]? = some (.cells #[.int .i64 0, .int .i64 0] 41 (0, 0)) := p4.at bx9 (fun e => by
    rcases e with e | e
    · omega
    · have := (HOL.out _ e).2
      omega)
  have Q2 := hide p2
  have Q3 := hide p3
  have Q4 := hide p4
  clear ho8 hg8 ha8 p1 p2 p3 p4 c1 c2 c3
  go_upto_region 11 with fail
  obtain ⟨w3, hw3⟩ : ∃ X, X = w8.setCell ⟨g, 2, none⟩ (.slice (some ⟨g8, 0, none⟩) (os.length + 1) c8) := ⟨_, rfl⟩
  rw [← hw3] at Q2 Q4 bx8 ⊢
  clear hw3 x1 y1
  obtain ⟨-, c1, c2, c3⟩ := Q2.out.cell
  have b0 : w3.cell? ⟨w.heap.size, 0, none⟩ = some (.int .i64 0) := by rw [cell_of_row w3 w.heap.size _ _ 41 (0, 0) bx8]; rfl
  have b1 : w3.cell? ⟨w.heap.size, 1, none⟩ = some (.int .i64 0) := by rw [cell_of_row w3 w.heap.size _ _ 41 (0, 0) bx8]; rfl
  have bf : ∀ q, w3.frozen? ⟨w.heap.size, q, none⟩ = false := fun q => frozen_of_row w3 w.heap.size q _ 41 bx8
  have tw : IntKind.i64.wrap ((hs.length : Int) + 1 - 1) = (hs.length : Int) := by rw [IntKind.wrap_i64]; omega
  have ts : (hs.length : Int) + 1 - 1 = (hs.length : Int) := by omega
  have PK : Hid (∀ k, (Value.slice (some ⟨g9, 0, none⟩) (hs.length + 1) c9).ownBlock = some k → (Value.slice aog hs.length cg).ownBlock = some k ∨ w.heap.size ≤ k) := fun k e => (P3.out k e).imp id (fun h => by omega)
  have QK : Hid (∀ k, (Value.slice (some ⟨g8, 0, none⟩) (os.length + 1) c8).ownBlock = some k → (Value.slice aoo os.length co).ownBlock = some k ∨ w.heap.size ≤ k) := fun k e => (Q3.out k e).imp id (fun h => by omega)
  have HM : Hid (Mv w w3 (fun k => k = g ∨ (Value.slice aog hs.length cg).ownBlock = some k ∨ (Value.slice aoo os.length co).ownBlock = some k)) := ((Mv.of_below HB1.out _).trans P4.out (fun k _ e => by
    rcases e with e | e
    · exact .inl e
    · exact .inr (.inl e))).trans Q4.out (fun k _ e => by
    rcases e with e | e
    · exact .inl e
    · exact .inr (.inr e))
  have hne9 : ∀ k, (Value.slice (some ⟨g9, 0, none⟩) (hs.length + 1) c9).ownBlock = some k → k ≠ w.heap.size := fun k e e' => by
    rcases P3.out k e with h | h
    · have := (HGL.out k h).2
      omega
    · omega
  have hne8 : ∀ k, (Value.slice (some ⟨g8, 0, none⟩) (os.length + 1) c8).ownBlock = some k → k ≠ w.heap.size := fun k e e' => by
    rcases Q3.out k e with h | h
    · have := (HOL.out k h).2
      omega
    · omega
  have hnef : ∀ k, (Value.slice aof ([] : List Nat).length cf).ownBlock = some k → k ≠ w.heap.size := fun k e e' => by
    have := H.out.2.2.2.1.lt k e
    omega
  have N9 := hide hne9
  have N8 := hide hne8
  have NF := hide hnef
  clear hne9 hne8 hnef P3 Q3 P4 Q4
  go_wp2_with fail
  (try simp only [Exit.inBlock, Exit.then])
  refine bodyPost_ret (v := .tuple #[ev (hs.length, 1), .int .i64 0]) ?_ rfl ⟨rfl, _, _, Q2.out.frame (T := fun k => k = w.heap.size) (((Mv.refl w3 (fun k => k = w.heap.size)).set rfl _ _).set rfl _ _) (by omega) (fun k e e' => N9.out k e e') (fun k e e' => N8.out k e e') (fun k e e' => NF.out k e e'), PK.out, QK.out, HM.out.trans (S' := fun k => k = w.heap.size) (((Mv.refl w3 (fun k => k = w.heap.size)).set rfl _ _).set rfl _ _) (fun k hk e => by omega)⟩
  rw [results_cell_tmp rfl]
  go_simp
  rfl
theorem dtake_new {w : World} {S : Nat → Prop} {g n : Nat} {gs : List Nat} (h : Dl w S g n gs []) (hn : gs.length < n) :
    Calls Try.prog 19 #[.pointer (some ⟨g, 0, none⟩)] w fun e w' => e = .returned (.tuple #[ev (gs.length, 1), .int .i64 0]) ∧ Dl w' (Nw w S) g n (gs ++ [1]) [] ∧ Mv w w' S := by
  obtain ⟨⟨vg, vo, vf, hp, s0, s1, s2, s3⟩, ho⟩ := h
  have hn2 := ho.2.1
  refine (dnew_walk g n vg vo vf _ _ w hp (by rw [hsOf_len]; exact hn) (by omega) (by rw [osOf_len]; omega)).mono ?_
  rintro e w' ⟨rfl, vg', vo', q1, q2, q3, q4⟩
  rw [hs_new, os_new] at q1
  rw [hsOf_len]
  refine ⟨rfl, ⟨⟨vg', vo', vf, q1, .inl s0, fun k e => (q2 k e).imp (fun h => s1 k h) id, fun k e => (q3 k e).imp (fun h => s2 k h) id, s3.mono (fun _ e => .inl e)⟩, ok_new ho hn⟩, q4.mono (fun k _ e => ?_)⟩
  rcases e with rfl | e | e
  · exact s0
  · exact s1 k e
  · exact s2 k e
end Go.Proofs.Ytejbdhbphbgckaa
