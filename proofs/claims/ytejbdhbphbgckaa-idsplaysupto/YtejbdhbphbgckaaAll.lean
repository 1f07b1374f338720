/-
  All.
-/
import Derived.Test.YtejbdhbphbgckaaPool
namespace Go.Proofs.Ytejbdhbphbgckaa
open Go.RowKit
def nz (p : Nat × Nat) : Bool := !(p.1 == 0 && p.2 == 0)
theorem filter_take_succ {lv : List (Nat × Nat)} {i : Nat} (h : i < lv.length) : (lv.take (i + 1)).filter nz = (lv.take i).filter nz ++ (if nz lv[i] then [lv[i]] else []) := by
  rw [List.take_add_one, List.getElem?_eq_getElem h, List.filter_append]
  simp [List.filter_cons]
set_option maxHeartbeats 2000000 in
set_option maxRecDepth 100000 in
theorem all_pm (g n : Nat) (vg vl vf : Value) (gs fr : List Nat) (lv : List (Nat × Nat)) (w : World) (h : Pm w g n vg vl vf gs fr lv) (hl : lv.length ≤ 1000000) :
    Calls Try.prog 14 #[.pointer (some ⟨g, 0, none⟩)] w fun e w' => ∃ v, e = .returned v ∧ w'.ownsRow w.heap.size 41 2 v (lv.filter nz).length (ec (lv.filter nz)) ∧ Below w.heap.size w w' := by
  obtain ⟨i0, hi, hz0, hz1, hz2⟩ := info_parts info41
  obtain ⟨c0, c1, c2, c3⟩ := h.cell
  obtain ⟨ao, c, rfl⟩ := own_len h.2.2.1
  obtain ⟨hc1, hc2⟩ := own_cap h.2.2.1
  have H := hide h
  clear h
  go_enter Try.func14, Try.ntmps14
  go_wp2_with fail
  clear c0 c1 c2 c3
  go_loopw [3, 11] (fun v3 v11 wr => ∃ i : Nat, i ≤ lv.length ∧ v11 = .int .i64 (i : Int) ∧ Hid (Below w.heap.size w wr) ∧ Hid (wr.ownsRow w.heap.size 41 2 v3 ((lv.take i).filter nz).length (ec ((lv.take i).filter nz)))) (fun _ v11 _ => lv.length - (intOf v11).toNat)
  case atStart => exact ⟨0, Nat.zero_le _, rfl, Below.refl _ _, World.ownsRow_nil _ _ _ _⟩
  case round =>
    obtain ⟨i, hil, rfl, HB, HO⟩ := hrel
    by_cases hlt : i < lv.length
    · have t1 : (i : Int) < (lv.length : Int) := by omega
      have hP := H.out.later HB.out
      obtain ⟨gl, c', ee, -, -⟩ := own_form hP.2.2.1 (by omega)
      simp only [Value.slice.injEq] at ee
      obtain ⟨rfl, -, rfl⟩ := ee
      obtain ⟨e1, e2⟩ := own_ent hP.2.2.1 i hlt
      have hs := filter_take_succ hlt
      have hsz := HB.out.size
      have hfl : ((lv.take i).filter nz).length ≤ 1000000 := Nat.le_trans (List.length_filter_le _ _) (by rw [List.length_take]; omega)
      generalize ((lv.take i).filter nz) = L at *
      generalize lv[i] = p at *
      obtain ⟨a, b⟩ := p
      obtain ⟨ao3, c3, rfl⟩ := own_len HO.out
      have HS := hide hs
      simp only at e1 e2
      clear hP hs
      cases hz : nz (a, b) with
      | false =>
        have hab : a = 0 ∧ b = 0 := by simpa [nz] using hz
        obtain ⟨rfl, rfl⟩ := hab
        go_wp2_with fail
        go_roundw
        case rel => 
          refine ⟨i + 1, by omega, by go_num, below_on HB.out (below_alloc wr _), ?_⟩
          have := HS.out
          rw [hz] at this
          rw [this]
          simpa [Hid] using own_later HO.out (below_alloc wr _)
        case measure => simp [intOf]; omega
      | true =>
        have hab : a = 0 → ¬ b = 0 := fun h1 h2 => by simp [nz, h1, h2] at hz
        have K : Hid (∀ (v' : Value) (w' : World), w'.ownsRow w.heap.size 41 2 v' (L.length + 1) (ec L ++ [.int .i64 (a : Int), .int .i64 (b : Int)]) → ((wr.alloc (.cells #[.int .i64 (a : Int), .int .i64 (b : Int)] 41)).alloc (.cells #[.int .i64 (a : Int), .int .i64 (b : Int)] 41)).grownBy w' (Value.slice ao3 L.length c3).ownBlock → Below w.heap.size w w' ∧ w'.ownsRow w.heap.size 41 2 v' ((lv.take (i + 1)).filter nz).length (ec ((lv.take (i + 1)).filter nz))) := fun v' w' h1 h2 => by
          refine ⟨(below_on (below_on HB.out (below_alloc wr _)) (below_alloc _ _)).grown h2 (by simp; omega) (fun k e => (HO.out.lt k e).1), ?_⟩
          have := HS.out
          rw [hz] at this
          rw [this, ec_append]
          simpa [ec] using h1
        by_cases ha : a = 0
        · have hb : ¬ b = 0 := hab ha
          subst ha
          clear hab
          go_wp2_with (at_builtin; refine wpList_append_lies _ rfl _ _ 47 rfl w.heap.size 41 i0 (.agg #[.int .i64 0, .int .i64 0]) 2 16 Try.underlying47 hi hz0 hz1 hz2 rfl (by decide) _ _ _ rfl ((HO.out.alloc _).alloc _) ⟨wr.heap.size + 1, 0, none⟩ 1 1 [.int .i64 0, .int .i64 (b : Int)] rfl rfl ?c1 ?c2 (by omega) (by unfold maxLen; omega) (by omega) ?c5 _ rfl ?_)
          case c1 =>
            intro j u hj
            match j, hj with
            | 0, hj => simp at hj; subst hj; simp [Addr.add]
            | 1, hj => simp at hj; subst hj; simp [Addr.add]
          case c2 =>
            intro u hu
            simp at hu
            rcases hu with rfl | rfl <;> rfl
          case c5 => simp; omega
          intro g9 c9 w9 h1 h2 _ _
          obtain ⟨h3, h4⟩ := K.out _ _ h1 h2
          have H3 := hide h3
          have H4 := hide h4
          clear h1 h2 h3 h4 K
          go_wp2_with fail
          go_roundw
          case rel => exact ⟨i + 1, by omega, by go_num, H3, H4⟩
          case measure => simp [intOf]; omega
        · clear hab
          go_wp2_with (at_builtin; refine wpList_append_lies _ rfl _ _ 47 rfl w.heap.size 41 i0 (.agg #[.int .i64 0, .int .i64 0]) 2 16 Try.underlying47 hi hz0 hz1 hz2 rfl (by decide) _ _ _ rfl ((HO.out.alloc _).alloc _) ⟨wr.heap.size + 1, 0, none⟩ 1 1 [.int .i64 (a : Int), .int .i64 (b : Int)] rfl rfl ?d1 ?d2 (by omega) (by unfold maxLen; omega) (by omega) ?d5 _ rfl ?_)
          case d1 =>
            intro j u hj
            match j, hj with
            | 0, hj => simp at hj; subst hj; simp [Addr.add]
            | 1, hj => simp at hj; subst hj; simp [Addr.add]
          case d2 =>
            intro u hu
            simp at hu
            rcases hu with rfl | rfl <;> rfl
          case d5 => simp; omega
          intro g9 c9 w9 h1 h2 _ _
          obtain ⟨h3, h4⟩ := K.out _ _ h1 h2
          have H3 := hide h3
          have H4 := hide h4
          clear h1 h2 h3 h4 K
          go_wp2_with fail
          go_roundw
          case rel => exact ⟨i + 1, by omega, by go_num, H3, H4⟩
          case measure => simp [intOf]; omega
    · obtain rfl : i = lv.length := by omega
      have ho := HO.out
      rw [List.take_length] at ho
      have HO1 := hide ho
      have t1 : ¬ (lv.length : Int) < (lv.length : Int) := by omega
      clear ho HO
      go_wp2_with fail
      go_ret
      exact ⟨_, rfl, HO1.out, HB.out⟩
theorem all_any {w : World} {S : Nat → Prop} {g n : Nat} {gs fr : List Nat} (h : Pl w S g n gs fr) :
    Calls Try.prog 14 #[.pointer (some ⟨g, 0, none⟩)] w fun e w' => ∃ v, e = .returned v ∧ w'.ownsRow w.heap.size 41 2 v ((lvOf gs fr).filter nz).length (ec ((lvOf gs fr).filter nz)) ∧ Below w.heap.size w w' := by
  obtain ⟨⟨vg, vl, vf, hp, _⟩, ho⟩ := h
  exact all_pm g n vg vl vf gs fr _ w hp (by rw [lvOf_len]; have := ho.2.2.1; have := ho.2.1; omega)
end Go.Proofs.Ytejbdhbphbgckaa
