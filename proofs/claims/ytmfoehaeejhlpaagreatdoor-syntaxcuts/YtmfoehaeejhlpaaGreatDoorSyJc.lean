/-
  What is well formed: a node's text; a child's role.
-/
import Derived.Test.YtmfoehaeejhlpaaGreatDoorGaAS
import Derived.Test.YtmfoehaeejhlpaaGreatDoorSyJa
namespace Go.Proofs.YtmfoehaeejhlpaaGreatDoor
open Go.RowKit Yn
set_option maxRecDepth 100000
/-- A text that a node may have. -/
def txOk (op : Nat) (t : ByteArray) : Prop := ((op = 2 ∨ op = 4 ∨ op = 10 ∨ op = 11 ∨ op = 12 ∨ op = 19 ∨ op = 23 ∨ op = 24 ∨ op = 31 ∨ op = 32 ∨ op = 37) ∧ nmOk t) ∨ op = 3 ∨ (op = 33 ∧ binding t ≠ 0) ∨ (op = 34 ∧ t = bs [45]) ∨ (op = 34 ∧ t = bs [33]) ∨ (op = 36 ∧ isBuiltIn t = true) ∨ (op = 36 ∧ isBuiltIn t = false ∧ nmOk t) ∨ (op = 38 ∧ t = bs [116, 105, 99, 107]) ∨ (op = 38 ∧ t = bs [109, 101]) ∨ ((op ≠ 2 ∧ op ≠ 3 ∧ op ≠ 4 ∧ op ≠ 10 ∧ op ≠ 11 ∧ op ≠ 12 ∧ op ≠ 19 ∧ op ≠ 23 ∧ op ≠ 24 ∧ op ≠ 31 ∧ op ≠ 32 ∧ op ≠ 33 ∧ op ≠ 34 ∧ op ≠ 36 ∧ op ≠ 37 ∧ op ≠ 38) ∧ t = bs [])
set_option maxHeartbeats 4000000 in
theorem text_j {B j gw k g op m c : Nat} {t : ByteArray} {n : Int} {ao : Option Addr} {w : World} (hj : Jd B w j gw k) (hK : Le.Wd w) (hce : Ce B w g op t n ao m c) (h : txOk op t) : Calls Tryz.prog 83 #[.pointer (some ⟨j, 0, none⟩), .pointer (some ⟨g, 0, none⟩)] w fun e w' => e = .returned (.bool true) ∧ Below w.heap.size w w' := by
  obtain ⟨-, d0, d1, d2, d3⟩ := hce
  have R0 : Hid (Below w.heap.size w w) := Below.refl _ _
  unfold txOk at h
  rcases h with ⟨h, hn⟩ | h | ⟨h, hn⟩ | ⟨h, hn⟩ | ⟨h, hn⟩ | ⟨h, hn⟩ | ⟨h, hb, hn⟩ | ⟨h, hn⟩ | ⟨h, hn⟩ | ⟨h, hn⟩
  · have J := hide (name_j hj hK hn)
    clear hj hK hn
    rcases h with rfl | rfl | rfl | rfl | rfl | rfl | rfl | rfl | rfl | rfl | rfl
    all_goals
      go_enter Tryz.func83, Tryz.ntmps83
      go_wp2_with fail
      refine J.out.mono ?_
      rintro e w1 ⟨rfl, h1⟩
      have H1 := hide h1
      clear h1 J
      go_wp2_with fail
      go_ret
      exact ⟨rfl, H1.out⟩
  · subst h
    go_enter Tryz.func83, Tryz.ntmps83
    go_wp2_with fail
    go_ret
    exact ⟨rfl, R0.out⟩
  · subst h
    have J := hide (binding_any t w)
    have z : ((binding t : Int) != 0) = true := by rw [bne_iff_ne]; omega
    clear hj hK hn
    go_enter Tryz.func83, Tryz.ntmps83
    go_wp2_with fail
    refine J.out.mono ?_
    rintro e w1 ⟨rfl, rfl⟩
    clear J
    go_wp2_with fail
    go_ret
    exact ⟨by first | rfl | simp, R0.out⟩
  · subst h
    have z : (t.toList == [45]) = true := by
      rw [hn]
      unfold bs
      simp
    clear hj hK hn
    go_enter Tryz.func83, Tryz.ntmps83
    go_wp2_with fail
    go_ret
    exact ⟨by first | rfl | simp, R0.out⟩
  · subst h
    have z : (t.toList == [33]) = true := by
      rw [hn]
      unfold bs
      simp
    have y : (t.toList == [45]) = false := by
      rw [hn]
      unfold bs
      simp
    clear hj hK hn
    go_enter Tryz.func83, Tryz.ntmps83
    go_wp2_with fail
    go_ret
    exact ⟨by first | rfl | simp, R0.out⟩
  · subst h
    have J := builtIn_any t w
    rw [hn] at J
    have J := hide J
    clear hj hK hn
    go_enter Tryz.func83, Tryz.ntmps83
    go_wp2_with fail
    refine J.out.mono ?_
    rintro e w1 ⟨rfl, rfl⟩
    go_wp2_with fail
    go_ret
    exact ⟨rfl, R0.out⟩
  · subst h
    have J := builtIn_any t w
    rw [hb] at J
    have J := hide J
    have J2 := hide (name_j hj hK hn)
    clear hj hK hn hb
    go_enter Tryz.func83, Tryz.ntmps83
    go_wp2_with fail
    refine J.out.mono ?_
    rintro e w1 ⟨rfl, rfl⟩
    go_wp2_with fail
    refine J2.out.mono ?_
    rintro e w2 ⟨rfl, h1⟩
    have H1 := hide h1
    clear h1 J J2
    go_wp2_with fail
    go_ret
    exact ⟨rfl, H1.out⟩
  · subst h
    have z : (t.toList == [116, 105, 99, 107]) = true := by
      rw [hn]
      unfold bs
      simp
    clear hj hK hn
    go_enter Tryz.func83, Tryz.ntmps83
    go_wp2_with fail
    go_ret
    exact ⟨by first | rfl | simp, R0.out⟩
  · subst h
    have z : (t.toList == [109, 101]) = true := by
      rw [hn]
      unfold bs
      simp
    have y : (t.toList == [116, 105, 99, 107]) = false := by
      rw [hn]
      unfold bs
      simp
    clear hj hK hn
    go_enter Tryz.func83, Tryz.ntmps83
    go_wp2_with fail
    go_ret
    exact ⟨by first | rfl | simp, R0.out⟩
  · have z : (t.toList == []) = true := by
      rw [hn]
      unfold bs
      simp
    have k2 : ¬ (op : Int) = 2 := by omega
    have k3 : ¬ (op : Int) = 3 := by omega
    have k4 : ¬ (op : Int) = 4 := by omega
    have k10 : ¬ (op : Int) = 10 := by omega
    have k11 : ¬ (op : Int) = 11 := by omega
    have k12 : ¬ (op : Int) = 12 := by omega
    have k19 : ¬ (op : Int) = 19 := by omega
    have k23 : ¬ (op : Int) = 23 := by omega
    have k24 : ¬ (op : Int) = 24 := by omega
    have k31 : ¬ (op : Int) = 31 := by omega
    have k32 : ¬ (op : Int) = 32 := by omega
    have k33 : ¬ (op : Int) = 33 := by omega
    have k34 : ¬ (op : Int) = 34 := by omega
    have k36 : ¬ (op : Int) = 36 := by omega
    have k37 : ¬ (op : Int) = 37 := by omega
    have k38 : ¬ (op : Int) = 38 := by omega
    clear hj hK hn h
    go_enter Tryz.func83, Tryz.ntmps83
    go_wp2_with fail
    go_ret
    exact ⟨by first | rfl | simp, R0.out⟩
/-- What the child at a place must be. -/
def roleAt (op i : Nat) : Nat := if i < (fsL op).length then (fsL op).getD i 0 else if i = (fsL op).length ∧ peR op ≠ 0 then peR op else maR op
theorem fsL_le (op : Nat) : (fsL op).length ≤ 5 := by
  unfold fsL
  by_cases h2 : op = 2
  · rw [if_pos h2]; decide
  rw [if_neg h2]
  by_cases h4 : op = 4
  · rw [if_pos h4]; decide
  rw [if_neg h4]
  by_cases h10 : op = 10
  · rw [if_pos h10]; decide
  rw [if_neg h10]
  by_cases h11 : op = 11
  · rw [if_pos h11]; decide
  rw [if_neg h11]
  by_cases h12 : op = 12
  · rw [if_pos h12]; decide
  rw [if_neg h12]
  by_cases h13 : op = 13
  · rw [if_pos h13]; decide
  rw [if_neg h13]
  by_cases h14 : op = 14
  · rw [if_pos h14]; decide
  rw [if_neg h14]
  by_cases h15 : op = 15
  · rw [if_pos h15]; decide
  rw [if_neg h15]
  by_cases h16 : op = 16
  · rw [if_pos h16]; decide
  rw [if_neg h16]
  by_cases h18 : op = 18
  · rw [if_pos h18]; decide
  rw [if_neg h18]
  by_cases h22 : op = 22
  · rw [if_pos h22]; decide
  rw [if_neg h22]
  by_cases h24 : op = 24
  · rw [if_pos h24]; decide
  rw [if_neg h24]
  by_cases h32 : op = 32
  · rw [if_pos h32]; decide
  rw [if_neg h32]
  by_cases h33 : op = 33
  · rw [if_pos h33]; decide
  rw [if_neg h33]
  by_cases h34 : op = 34
  · rw [if_pos h34]; decide
  rw [if_neg h34]
  by_cases h35 : op = 35
  · rw [if_pos h35]; decide
  rw [if_neg h35]
  decide
set_option maxHeartbeats 4000000 in
theorem at_w {op i : Nat} {v : Value} {w : World} (h : Shp w v op) (_hi : i ≤ 1048576) : Calls Tryz.prog 85 #[.agg #[v, .int .i64 (peR op : Int), .int .i64 (maR op : Int)], .int .i64 (i : Int)] w fun e w' => e = .returned (.int .i64 (roleAt op i : Int)) ∧ Below w.heap.size w w' := by
  have R0 : Hid (Below w.heap.size w (w.alloc (.cells #[v, .int .i64 (peR op : Int), .int .i64 (maR op : Int)] 139))) := below_alloc w _
  have hs := h.later R0.out
  obtain ⟨ao, rfl, hc⟩ := h
  obtain ⟨m, hm⟩ : ∃ m, m = (fsL op).length := ⟨_, rfl⟩
  have hm5 := fsL_le op
  unfold roleAt
  by_cases h1 : i < (fsL op).length
  · rw [if_pos h1, List.getD_eq_getElem?_getD, List.getElem?_eq_getElem h1]
    obtain ⟨q, rfl, hq⟩ := hc i h1
    have hq2 := (R0.out.cell (World.block_lt_of_cell? w _ hq)).trans hq
    show Calls _ _ _ _ fun e w' => e = .returned (.int .i64 ((fsL op)[i] : Int)) ∧ _
    generalize (fsL op)[i] = r at *
    rw [← hm] at h1 hm5 R0 ⊢
    have k1 : (i : Int) < (m : Int) := by omega
    rw [← hm] at hq2
    clear hc hs hm hq
    go_enter Tryz.func85, Tryz.ntmps85
    go_wp2_with fail
    go_ret
    exact ⟨rfl, R0.out⟩
  · rw [if_neg h1]
    rw [← hm] at h1 hm5 R0 ⊢
    have k1 : ¬ (i : Int) < (m : Int) := by omega
    by_cases h2 : i = m ∧ peR op ≠ 0
    · rw [if_pos h2]
      obtain ⟨rfl, h2⟩ := h2
      have k2 : ((peR op : Int) != 0) = true := by rw [bne_iff_ne]; omega
      have k3 : ¬ (peR op : Int) = 0 := by omega
      clear hc hs h2 hm
      go_enter Tryz.func85, Tryz.ntmps85
      go_wp2_with fail
      go_ret
      exact ⟨rfl, R0.out⟩
    · rw [if_neg h2]
      by_cases h3 : i = m
      · subst h3
        have k2 : peR op = 0 := by
          by_cases e : peR op = 0
          · exact e
          · exact absurd ⟨rfl, e⟩ h2
        have k3 : (peR op : Int) = 0 := by omega
        clear hc hs h2 hm
        go_enter Tryz.func85, Tryz.ntmps85
        go_wp2_with fail
        go_ret
        exact ⟨rfl, by have := R0.out; (try rw [k3] at this); exact this⟩
      · have k2 : ¬ (i : Int) = (m : Int) := by omega
        clear hc hs h2 hm h3
        go_enter Tryz.func85, Tryz.ntmps85
        go_wp2_with fail
        go_ret
        exact ⟨rfl, R0.out⟩
end Go.Proofs.YtmfoehaeejhlpaaGreatDoor
