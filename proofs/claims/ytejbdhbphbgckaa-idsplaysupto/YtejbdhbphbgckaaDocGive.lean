/-
  The document's Give.
-/
import Derived.Test.YtejbdhbphbgckaaDocNew
namespace Go.Proofs.Ytejbdhbphbgckaa
open Go.RowKit
set_option maxHeartbeats 1000000 in
theorem dgive_stale {w : World} {S : Nat → Prop} {g n : Nat} {gs fr : List Nat} (a b : Int) (h : Dl w S g n gs fr) (hl : livesOf gs fr a b = false) :
    Calls Try.prog 20 #[.pointer (some ⟨g, 0, none⟩), .agg #[.int .i64 a, .int .i64 b]] w fun e w' => e = .returned (.int .i64 41) ∧ Below w.heap.size w w' := by
  have HL := hide (dlives_any a b (h.later (below_alloc w (.cells #[.int .i64 a, .int .i64 b] 41))))
  rw [hl] at HL
  clear h hl
  go_enter Try.func20, Try.ntmps20
  go_wp2_with fail
  refine HL.out.mono ?_
  rintro e w1 ⟨rfl, hb⟩
  have HB := hide (below_on (below_alloc w _) hb)
  clear hb HL
  go_wp2_with fail
  go_ret
  exact ⟨rfl, HB.out⟩
set_option maxHeartbeats 4000000 in
set_option maxRecDepth 100000 in
theorem dgive_walk (g n i y : Nat) (vg vo vf : Value) (hs fr : List Nat) (os : List Bool) (w : World) (h : Dm w g n vg vo vf hs os fr) (hio : i < os.length) (hfl : fr.length ≤ 1000) (hy : y ≤ 1000000)
    (hL : Calls Try.prog 32 #[.pointer (some ⟨g, 0, none⟩), .agg #[.int .i64 (i : Int), .int .i64 (y : Int)]] (w.alloc (.cells #[.int .i64 (i : Int), .int .i64 (y : Int)] 41)) fun e w' => e = .returned (.bool true) ∧ Below (w.alloc (.cells #[.int .i64 (i : Int), .int .i64 (y : Int)] 41)).heap.size (w.alloc (.cells #[.int .i64 (i : Int), .int .i64 (y : Int)] 41)) w') :
    Calls Try.prog 20 #[.pointer (some ⟨g, 0, none⟩), .agg #[.int .i64 (i : Int), .int .i64 (y : Int)]] w fun e w' => e = .returned (.int .i64 0) ∧ ∃ vf', Dm w' g n vg vo vf' hs (os.set i false) (if y = 1000000 then fr else fr ++ [i]) ∧ (∀ k, vf'.ownBlock = some k → vf.ownBlock = some k ∨ w.heap.size ≤ k) ∧ Mv w w' (fun k => k = g ∨ vo.ownBlock = some k) := by
  obtain ⟨i3, hi3, hx0, hx1, hx2⟩ := info_parts info3
  obtain ⟨go, co, rfl, -, -⟩ := own_form h.2.2.1 (by omega)
  obtain ⟨aof, cf, rfl, hc1, hc2⟩ := h.2.2.2.1.len
  have hlo := (h.2.2.1.lt go rfl).2
  have hgw := h.lt
  have hgo : go ≠ g := fun e => h.2.2.2.2.1.2.1 (by rw [← e]; rfl)
  have HL := hide hL
  have H := hide h
  clear hL h
  go_enter Try.func20, Try.ntmps20
  go_wp2_with fail
  refine HL.out.mono ?_
  rintro e w1 ⟨rfl, hb⟩
  have hb1 := below_on (below_alloc w (.cells #[.int .i64 (i : Int), .int .i64 (y : Int)] 41)) hb
  have hp1 := H.out.later hb1
  have bx : w1.heap[w.heap.size]? = some (.cells #[.int .i64 (i : Int), .int .i64 (y : Int)] 41 (0, 0)) := (hb.block w.heap.size (by simp)).trans (heap_alloc_new w _)
  have e1 := own_bool hp1.2.2.1 i hio
  have f1 := hp1.2.2.1.frozenAt i
  have hp2 := hp1.set_on i false
  have bx2 : (w1.setCell ⟨go, i, none⟩ (.bool false)).heap[w.heap.size]? = some (.cells #[.int .i64 (i : Int), .int .i64 (y : Int)] 41 (0, 0)) := (heap_setCell_other w1 ⟨go, i, none⟩ w.heap.size _ (by show w.heap.size ≠ go; omega)).trans bx
  have HM2 : Hid (Mv w (w1.setCell ⟨go, i, none⟩ (.bool false)) (fun k => k = g ∨ (Value.slice (some ⟨go, 0, none⟩) os.length co).ownBlock = some k)) := (Mv.of_below hb1 _).set (g := go) (.inr rfl) _ _
  obtain ⟨-, c1, c2, c3⟩ := hp1.cell
  obtain ⟨-, d1, d2, d3⟩ := hp2.cell
  have b0 : w1.cell? ⟨w.heap.size, 0, none⟩ = some (.int .i64 (i : Int)) := by rw [cell_of_row w1 w.heap.size _ _ 41 (0, 0) bx]; rfl
  have q0 : (w1.setCell ⟨go, i, none⟩ (.bool false)).cell? ⟨w.heap.size, 0, none⟩ = some (.int .i64 (i : Int)) := by rw [cell_of_row _ w.heap.size _ _ 41 (0, 0) bx2]; rfl
  have t2 : (i : Int) < (os.length : Int) := by omega
  have HP2 := hide hp2
  clear hb hp1 hp2 bx HL
  go_upto_region 4 with fail
  go_region_held3 (fun W => W.cell? ⟨g, 2, none⟩ = some (.slice (some ⟨go, 0, none⟩) os.length co) ∧ W.cell? ⟨w.heap.size, 0, none⟩ = some (.int .i64 (i : Int))) (go_keep) (fail)
  obtain ⟨w2, hw2⟩ : ∃ X, X = (w1.setCell ⟨go, i, none⟩ (.bool false)).drew := ⟨_, rfl⟩
  have HP3 : Hid (Dm w2 g n vg (.slice (some ⟨go, 0, none⟩) os.length co) (.slice aof fr.length cf) hs (os.set i false) fr) := hw2 ▸ HP2.out.later (below_drew _)
  have HM3 := hide (HM2.out.later (below_drew _))
  have bx3 : w2.heap[w.heap.size]? = some (.cells #[.int .i64 (i : Int), .int .i64 (y : Int)] 41 (0, 0)) := hw2 ▸ bx2
  rw [← hw2] at HM3 ⊢
  clear hw2 HM2 HP2 bx2 c1 c2 c3 d1 d2 d3 b0 q0 e1 f1 hb1
  obtain ⟨-, c1, c2, c3⟩ := HP3.out.cell
  have b0 : w2.cell? ⟨w.heap.size, 0, none⟩ = some (.int .i64 (i : Int)) := by rw [cell_of_row w2 w.heap.size _ _ 41 (0, 0) bx3]; rfl
  have b1 : w2.cell? ⟨w.heap.size, 1, none⟩ = some (.int .i64 (y : Int)) := by rw [cell_of_row w2 w.heap.size _ _ 41 (0, 0) bx3]; rfl
  have hsz2 := HM3.out.size
  by_cases hyw : y = 1000000
  · subst hyw
    go_wp2_with fail
    go_ret
    exact ⟨rfl, _, HP3.out, fun k e => .inl e, HM3.out⟩
  · have t3 : (y : Int) < 1000000 := by omega
    go_wp2_with (at_builtin; refine wpList_append_fw _ rfl _ _ rfl w2.heap.size _ _ [] fr rfl (World.ownsRow_nil _ _ _ _) rfl HP3.out.2.2.2.1 (by simp; omega) (Nat.le_refl _) ?_)
    intro v' w3 q1 q2 q3
    have hb3 : Below w2.heap.size w2 w3 := (Below.refl _ _).grown q2 (Nat.le_refl _) (fun k e => by simp [Value.ownBlock] at e)
    obtain ⟨ao3, c3', rfl⟩ := own_len q1
    have hp3 := HP3.out.later hb3
    have bx4 : w3.heap[w.heap.size]? = some (.cells #[.int .i64 (i : Int), .int .i64 (y : Int)] 41 (0, 0)) := (hb3.block _ (lt_of_block bx3)).trans bx3
    have b2 : w3.cell? ⟨w.heap.size, 0, none⟩ = some (.int .i64 (i : Int)) := by rw [cell_of_row w3 w.heap.size _ _ 41 (0, 0) bx4]; rfl
    have Q1 := hide q1
    have HP4 := hide hp3
    have HB3 := hide hb3
    clear q1 q2 q3 hp3 hb3 c1 c2 c3 b0 b1 bx3
    go_wp2_with (at_builtin; refine wpList_append_lies _ rfl _ _ 33 rfl w2.heap.size 3 i3 (.int .i64 0) 1 8 Try.underlying33 hi3 hx0 hx1 hx2 rfl (by decide) _ _ _ rfl (Q1.out.alloc _) ⟨w3.heap.size, 0, none⟩ 1 1 [.int .i64 (i : Int)] rfl rfl ?a1 ?a2 (by omega) (by unfold maxLen; omega) (by omega) ?a5 _ rfl ?_)
    case a1 =>
      intro j u hj
      match j, hj with
      | 0, hj => simp at hj; subst hj; simp [Addr.add]
    case a2 =>
      intro u hu
      simp at hu
      subst hu
      rfl
    case a5 => have := HB3.out.size; simp; omega
    intro g9 c9 w9 ho9 hg9 _ _
    have hb9 : Below w2.heap.size w2 w9 := (below_on HB3.out (below_alloc w3 _)).grown hg9 (by have := HB3.out.size; simp; omega) (fun k e => (Q1.out.lt k e).1)
    have hge := (ho9.lt g9 rfl).1
    have hp5 := HP4.out.later (below_alloc w3 (.cells #[.int .i64 (i : Int)] 3))
    have hp6 := HP3.out.later hb9
    have hv9 : Fw w9 (.slice (some ⟨g9, 0, none⟩) (fr.length + 1) c9) (fr ++ [i]) := by
      have e : (fr ++ [i]).length = fr.length + 1 := by simp
      have := own_fw (w := w9) (B := w2.heap.size) (v := .slice (some ⟨g9, 0, none⟩) (fr.length + 1) c9) (l := fr ++ [i]) (by rw [e, ic_append]; exact ho9)
      exact this
    have hlt2 := HP3.out.lt
    have hn : ∀ k, (Value.slice (some ⟨g9, 0, none⟩) (fr.length + 1) c9).ownBlock = some k → w2.heap.size ≤ k := fun k e => by
      simp only [Value.ownBlock, Option.some.injEq] at e
      omega
    have hp7 := hp6.put_free hv9 (fun e => by have := hn g e; omega) (fun k e1 e2 => by have := hn k e2; have := (HP3.out.2.1.lt k e1).2; omega) (fun k e1 e2 => by have := hn k e2; have := (HP3.out.2.2.1.lt k e1).2; omega)
    have d3 : w9.cell? ⟨g, 3, none⟩ = some (.slice aof fr.length cf) := hp6.cell.2.2.2
    have y3 := hp6.frozen 3
    have HM5 := hide ((HM3.out.later hb9).set (g := g) (.inl rfl) 3 (.slice (some ⟨g9, 0, none⟩) (fr.length + 1) c9))
    have HP7 := hide hp7
    have HN := hide hn
    have HSZ := hide hsz2
    clear ho9 hg9 hp5 hp6 hp7 hv9 hb9 hn hge hlt2 hsz2 t3 b2 bx4
    go_wp2_with fail
    go_ret
    exact ⟨rfl, _, HP7.out, fun k e => .inr (Nat.le_trans HSZ.out (HN.out k e)), HM5.out⟩
theorem hs_worn {gs : List Nat} {i : Nat} (hi : i < gs.length) (h : gs.getD i 0 = 1000000) : hsOf gs = hsOf (gs.set i 1000001) := by
  apply List.ext_getElem
  · simp [hsOf_len]
  · intro j h1 h2
    have hj : j < gs.length := by simpa [hsOf_len] using h1
    rw [hsOf_at gs j hj, hsOf_at _ j (by simpa using hj), getD_set hi]
    by_cases hij : i = j
    · subst hij
      rw [if_pos rfl, h]
      rfl
    · rw [if_neg hij]
theorem os_give {i : Nat} {gs fr : List Nat} (hi : i < gs.length) : (osOf gs fr).set i false = osOf (if gs.getD i 0 = 1000000 then gs.set i 1000001 else gs) (if gs.getD i 0 = 1000000 then fr else fr ++ [i]) := by
  by_cases hw : gs.getD i 0 = 1000000
  · rw [if_pos hw, if_pos hw]
    apply List.ext_getElem
    · simp [osOf_len]
    · intro j h1 h2
      have hj : j < gs.length := by simpa [osOf_len] using h1
      rw [osOf_at _ _ j (by simpa using hj), List.getElem_set]
      by_cases hij : i = j
      · subst hij
        rw [if_pos rfl]
        simp [on, hi]
      · rw [if_neg hij, osOf_at _ _ j hj]
        simp only [on, getD_set hi, if_neg hij]
  · rw [if_neg hw, if_neg hw]
    apply List.ext_getElem
    · simp [osOf_len]
    · intro j h1 h2
      have hj : j < gs.length := by simpa [osOf_len] using h1
      rw [osOf_at _ _ j hj, List.getElem_set]
      by_cases hij : i = j
      · subst hij
        rw [if_pos rfl]
        simp [on]
      · rw [if_neg hij, osOf_at _ _ j hj]
        simp [on, Ne.symm hij]
theorem dgive_live {w : World} {S : Nat → Prop} {g n i : Nat} {gs fr : List Nat} (h : Dl w S g n gs fr) (hi : i < gs.length) (hl : gs.getD i 0 ≤ 1000000) (hf : i ∉ fr) :
    Calls Try.prog 20 #[.pointer (some ⟨g, 0, none⟩), ev (i, gs.getD i 0)] w fun e w' => e = .returned (.int .i64 0) ∧ Dl w' (Nw w S) g n (if gs.getD i 0 = 1000000 then gs.set i 1000001 else gs) (if gs.getD i 0 = 1000000 then fr else fr ++ [i]) ∧ Mv w w' S := by
  have hlv : livesOf gs fr (i : Int) ((gs.getD i 0 : Nat) : Int) = true := by
    simp [livesOf, isOn, on, hi, hf]
    simpa [hi] using hl
  have hL := dlives_any (i : Int) ((gs.getD i 0 : Nat) : Int) (h.later (below_alloc w (.cells #[.int .i64 (i : Int), .int .i64 ((gs.getD i 0 : Nat) : Int)] 41)))
  rw [hlv] at hL
  obtain ⟨⟨vg, vo, vf, hp, s0, s1, s2, s3⟩, ho⟩ := h
  have hfl := ho.free_len
  have hlen := ho.2.2.1
  have hn2 := ho.2.1
  refine (dgive_walk g n i (gs.getD i 0) vg vo vf _ fr _ w hp (by rw [osOf_len]; exact hi) (by omega) hl hL).mono ?_
  rintro e w' ⟨rfl, vf', q1, q2, q3⟩
  rw [os_give hi] at q1
  have e1 : hsOf gs = hsOf (if gs.getD i 0 = 1000000 then gs.set i 1000001 else gs) := by
    by_cases hw : gs.getD i 0 = 1000000
    · rw [if_pos hw]
      exact hs_worn hi hw
    · rw [if_neg hw]
  rw [e1] at q1
  refine ⟨rfl, ⟨⟨vg, vo, vf', q1, .inl s0, s1.mono (fun _ e => .inl e), s2.mono (fun _ e => .inl e), fun k e => (q2 k e).imp (fun h => s3 k h) id⟩, ok_give ho hi hl hf⟩, q3.mono (fun k _ e => ?_)⟩
  rcases e with rfl | e
  · exact s0
  · exact s2 k e
end Go.Proofs.Ytejbdhbphbgckaa
