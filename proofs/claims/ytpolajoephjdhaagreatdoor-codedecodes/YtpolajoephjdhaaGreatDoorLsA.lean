/-
  The document's HasA, instrs, routine, listed.
-/
import Derived.Test.YtpolajoephjdhaaGreatDoorRfM
import Derived.Test.YtpolajoephjdhaaGreatDoorCoG
namespace Go.Proofs.YtpolajoephjdhaaGreatDoor
open Go.RowKit
set_option maxRecDepth 100000
theorem dhasa_any (op : Int) (w : World) : Calls Tryz.prog 49 #[.int .i64 op] w fun e w' => e = .returned (.bool (numb (opk op))) ∧ Below w.heap.size w w' := by
  have i1 := hide (disop_any op)
  by_cases h : 1 ≤ op ∧ op ≤ 39
  · rw [opk_in h]
    have t1 : decide (1 ≤ op ∧ op ≤ 39) = true := by simp [h]
    rw [t1] at i1
    go_enter Tryz.func49, Tryz.ntmps49
    go_wp2_with fail
    refine (i1.out _).mono ?_
    rintro e w' ⟨rfl, rfl⟩
    go_wp2_with fail
    refine (table_any w').mono ?_
    rintro e w2 ⟨rfl, hb, ht⟩
    obtain ⟨-, c1, -, -⟩ := ht op.toNat (by omega)
    go_wp2_with fail
    go_ret
    exact ⟨rfl, hb⟩
  · rw [opk_out h]
    have t1 : decide (1 ≤ op ∧ op ≤ 39) = false := by simp; omega
    rw [t1] at i1
    go_enter Tryz.func49, Tryz.ntmps49
    go_wp2_with fail
    refine (i1.out _).mono ?_
    rintro e w' ⟨rfl, rfl⟩
    go_wp2_with fail
    go_ret
    exact ⟨rfl, Below.refl _ _⟩
set_option maxHeartbeats 2000000 in
theorem dinstrs_any {Q : Nat → Prop} {W : World} {v : Value} {l : List Ins} (h : Il Q W v l) : Calls Tryz.prog 96 #[v] W fun e w' => e = .returned (.bool (l.all isIns)) ∧ Below W.heap.size W w' := by
  have H := hide h
  obtain ⟨ao, c, rfl, hc1, hc2⟩ := h.at
  obtain ⟨n, hn⟩ : ∃ n, n = l.length := ⟨_, rfl⟩
  rw [← hn] at H hc1 ⊢
  have HN := hide hn
  obtain ⟨te, hte⟩ : ∃ t, t = l.all isIns := ⟨_, rfl⟩
  rw [← hte]
  have TE := hide hte
  clear h hn hte
  go_enter Tryz.func96, Tryz.ntmps96
  go_wp2_with fail
  go_loopw [3] (fun u wr => ∃ k : Nat, u = .int .i64 (k : Int) ∧ k ≤ n ∧ Hid (Below W.heap.size W wr) ∧ Hid ((l.take k).all isIns = true)) (fun u _ => n - (intOf u).toNat)
  case atStart => exact ⟨0, rfl, by omega, Below.refl _ _, rfl⟩
  case round =>
    obtain ⟨k, rfl, hk, hb, ha⟩ := hrel
    by_cases hlt : k < n
    · have hlt' : k < l.length := by rw [← HN.out]; exact hlt
      have E4 : Hid ((l.take (k + 1)).all isIns = isIns l[k]) := by
        unfold Hid
        rw [List.take_add_one, List.getElem?_eq_getElem hlt', List.all_append, ha.out]
        simp
      have E5 : Hid (isIns l[k] = false → l.all isIns = false) := fun h => by
        rw [List.all_eq_false]
        exact ⟨l[k], List.getElem_mem _, by rw [h]; simp⟩
      obtain ⟨g, o, rfl, -, d0, d1, -, -⟩ := (H.out.later hb.out).nth hlt'
      have J0 := hide (H.out.later hb.out)
      have NT : Hid (∀ w', Below wr.heap.size wr w' → w'.cell? ⟨g, o + k * 2, none⟩ = some (.int .i64 l[k].op) ∧ w'.cell? ⟨g, o + k * 2 + 1, none⟩ = some (.int .i64 l[k].a)) := fun w' hb' => ⟨(hb'.cell (World.block_lt_of_cell? wr _ d0)).trans d0, (hb'.cell (World.block_lt_of_cell? wr _ d1)).trans d1⟩
      have ID : Hid (isIns l[k] = (decide (1 ≤ l[k].op ∧ l[k].op ≤ 39) && (l[k].a == 0 || numb (opk l[k].op)))) := rfl
      have i1 := hide (disop_any l[k].op wr)
      have i2 := hide (dhasa_any l[k].op wr)
      generalize hq : isIns l[k] = q at *
      generalize l[k] = x at *
      obtain ⟨xo, xa⟩ := x
      dsimp only at d0 d1 ID i1 i2 NT
      clear J0 hq
      generalize decide (1 ≤ xo ∧ xo ≤ 39) = t1 at *
      generalize numb (opk xo) = t2 at *
      go_wp2_with fail
      refine i1.out.mono ?_
      rintro e w1 ⟨rfl, rfl⟩
      go_wp2_with fail
      refine i2.out.mono ?_
      rintro e w2 ⟨rfl, hb2⟩
      obtain ⟨e0, e1⟩ := NT.out w2 hb2
      have HX := hide (below_on hb.out hb2)
      clear d0 d1 hb2 i1 i2 NT
      cases t1 with
      | false =>
        obtain rfl : q = false := by rw [ID.out]; rfl
        obtain rfl : te = false := by rw [TE.out]; exact E5.out rfl
        go_wp2_with fail
        go_ret
        exact ⟨rfl, HX.out⟩
      | true =>
        cases t2 with
        | true =>
          obtain rfl : q = true := by rw [ID.out]; simp
          go_wp2_with fail
          exact ⟨⟨k + 1, by go_num, by omega, HX.out, E4.out⟩, by simp [intOf]; omega⟩
        | false =>
          by_cases hx : xa = 0
          · obtain rfl : q = true := by rw [ID.out]; simp [hx]
            subst hx
            go_wp2_with fail
            exact ⟨⟨k + 1, by go_num, by omega, HX.out, E4.out⟩, by simp [intOf]; omega⟩
          · obtain rfl : q = false := by rw [ID.out]; simp [hx]
            obtain rfl : te = false := by rw [TE.out]; exact E5.out rfl
            have hx' : (xa != 0) = true := by simpa using hx
            go_wp2_with fail
            go_ret
            exact ⟨rfl, HX.out⟩
    · obtain rfl : k = n := by omega
      obtain rfl : te = true := by
        rw [TE.out]
        have := ha.out
        rw [HN.out, List.take_length] at this
        exact this
      go_wp2_with fail
      go_ret
      exact ⟨rfl, hb.out⟩
end Go.Proofs.YtpolajoephjdhaaGreatDoor
