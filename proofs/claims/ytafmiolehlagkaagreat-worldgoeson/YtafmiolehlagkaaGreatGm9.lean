import Derived.Test.YtafmiolehlagkaaGreatGm8
import Derived.Test.YtafmiolehlagkaaGreatIGive
/-
  From.
-/
namespace Go.Proofs.YtafmiolehlagkaaGreat
open Go.RowKit
set_option maxRecDepth 100000
/-- Numbers that are read, wherever they lie. -/
def Is (w : World) (v : Value) (l : List Int) : Prop :=
  ∃ ao c, v = .slice ao l.length c ∧ l.length ≤ c ∧ c ≤ maxLen ∧ ∀ j (hj : j < l.length), ∃ g o, ao = some ⟨g, o, none⟩ ∧ w.cell? ⟨g, o + j, none⟩ = some (.int .i64 l[j])
theorem Is.on {w w' : World} {v : Value} {l : List Int} (h : Is w v l) (hb : Below w.heap.size w w') : Is w' v l := by
  obtain ⟨ao, c, rfl, h1, h2, h3⟩ := h
  refine ⟨ao, c, rfl, h1, h2, fun j hj => ?_⟩
  obtain ⟨g, o, e, hc⟩ := h3 j hj
  exact ⟨g, o, e, (hb.cell (p := ⟨g, o + j, none⟩) (World.block_lt_of_cell? w _ hc)).trans hc⟩
def up (l : List Nat) : List Int := l.map fun n : Nat => (n : Int)
theorem up_inj : ∀ {a b : List Nat}, up a = up b → a = b
  | [], [], _ => rfl
  | [], _ :: _, h => by simp [up] at h
  | _ :: _, [], h => by simp [up] at h
  | x :: a, y :: b, h => by
    simp only [up, List.map_cons, List.cons.injEq] at h
    rw [up_inj (a := a) (b := b) h.2, show x = y by omega]
/-- A number is put down. -/
theorem lv_add (gs : List Nat) (x : Nat) : lvOf gs [] ++ [if x ≤ 1000000 then (gs.length, x) else (0, 0)] = lvOf (gs ++ [x]) [] := by
  apply List.ext_getElem
  · simp [lvOf_len]
  · intro j h1 h2
    have hj : j < gs.length + 1 := by simpa [lvOf_len] using h1
    rw [lvOf_at _ _ j (by simpa using hj)]
    by_cases hij : gs.length = j
    · subst hij
      rw [List.getElem_append_right (by simp [lvOf_len])]
      simp [on]
    · have hj' : j < gs.length := by omega
      rw [List.getElem_append_left (by simpa [lvOf_len] using hj'), lvOf_at _ _ j hj']
      simp [on, List.getD_eq_getElem?_getD, List.getElem?_append_left hj']
theorem ok_add {n x : Nat} {gs : List Nat} (h : Ok n gs []) (hn : gs.length < n) (h1 : 1 ≤ x) (h2 : x ≤ 1000001) : Ok n (gs ++ [x]) [] := by
  obtain ⟨a1, a2, a3, a4, a5, a6⟩ := h
  refine ⟨a1, a2, by simp; omega, fun y hy => ?_, a5, fun j hj => by simp at hj⟩
  rcases List.mem_append.1 hy with h | h
  · exact a4 y h
  · simp at h
    omega
theorem i_add_any {w : World} {S : Nat → Prop} {g n x : Nat} {gs : List Nat} (h : Pl w S g n gs []) (hn : gs.length < n) (h1 : 1 ≤ x) (h2 : x ≤ 1000001) :
    Calls Tryz.prog 130 #[.pointer (some ⟨g, 0, none⟩), .int .i64 (x : Int)] w fun e w' => e = .returned (.tuple #[]) ∧ Pl w' (Nw w S) g n (gs ++ [x]) [] ∧ Mv w w' S := by
  obtain ⟨⟨vg, vl, vf, hp, s0, s1, s2, s3⟩, ho⟩ := h
  have hn2 := ho.2.1
  have fin : ∀ (p : Nat × Nat) (e : Ending) (w' : World), lvOf gs [] ++ [p] = lvOf (gs ++ [x]) [] → (e = .returned (.tuple #[]) ∧ ∃ vg' vl', Pm w' g n vg' vl' vf (gs ++ [x]) [] (lvOf gs [] ++ [p]) ∧ (∀ k, vg'.ownBlock = some k → vg.ownBlock = some k ∨ w.heap.size ≤ k) ∧ (∀ k, vl'.ownBlock = some k → vl.ownBlock = some k ∨ w.heap.size ≤ k) ∧ Mv w w' (fun k => k = g ∨ vg.ownBlock = some k ∨ vl.ownBlock = some k)) → e = .returned (.tuple #[]) ∧ Pl w' (Nw w S) g n (gs ++ [x]) [] ∧ Mv w w' S := by
    rintro p e w' hp' ⟨rfl, vg', vl', q1, q2, q3, q4⟩
    rw [hp'] at q1
    refine ⟨rfl, ⟨⟨vg', vl', vf, q1, .inl s0, fun k e => (q2 k e).imp (fun h => s1 k h) id, fun k e => (q3 k e).imp (fun h => s2 k h) id, s3.mono (fun _ e => .inl e)⟩, ok_add ho hn h1 h2⟩, q4.mono (fun k _ e => ?_)⟩
    rcases e with rfl | e | e
    · exact s0
    · exact s1 k e
    · exact s2 k e
  have hlv := lv_add gs x
  by_cases hx : x ≤ 1000000
  · rw [if_pos hx] at hlv
    exact (add_live g n x vg vl vf gs [] _ w hp hx (by omega) (by rw [lvOf_len]; omega)).mono (fun e w' h => fin _ e w' hlv h)
  · rw [if_neg hx] at hlv
    exact (add_worn g n x vg vl vf gs [] _ w hp (by omega) (by omega) (by rw [lvOf_len]; omega)).mono (fun e w' h => fin _ e w' hlv h)
/-- What From takes. -/
def Good (most : Int) (G F : List Int) : Prop := ∃ n gs fr, most = (n : Nat) ∧ G = up gs ∧ F = up fr ∧ Ok n gs fr
def Got (w : World) (most : Int) (G F : List Int) (e : Ending) (w' : World) : Prop :=
  Below w.heap.size w w' ∧ ((e = .returned (.tuple #[.pointer none, .int .i64 1]) ∧ ¬ Good most G F) ∨ ∃ g n gs fr, e = .returned (.tuple #[.pointer (some ⟨g, 0, none⟩), .int .i64 0]) ∧ most = (n : Nat) ∧ G = up gs ∧ F = up fr ∧ Pl w' (fun k => w.heap.size ≤ k) g n gs fr)
set_option maxHeartbeats 4000000 in
set_option maxRecDepth 100000 in
theorem from_bad (most : Int) (v1 v2 : Value) (G F : List Int) (w : World) (h1 : Is w v1 G) (h2 : Is w v2 F) (hm : most < 1 ∨ most > 200 ∨ (G.length : Int) > most) :
    Calls Tryz.prog 64 #[.int .i64 most, v1, v2] w (Got w most G F) := by
  obtain ⟨ao1, c1, rfl, a1, a2, -⟩ := h1
  obtain ⟨ao2, c2, rfl, b1, b2, -⟩ := h2
  have HG : Hid (¬ Good most G F) := fun ⟨n, gs, fr, e1, e2, e3, e4⟩ => by
    have := e4.1
    have := e4.2.1
    have := e4.2.2.1
    have : G.length = gs.length := by rw [e2]; simp [up]
    omega
  by_cases hb : most < 1 ∨ most > 200
  · have HN := hide (i_new_bad most w hb)
    clear hm hb
    go_enter Tryz.func64, Tryz.ntmps64
    go_wp2_with fail
    refine HN.out.mono ?_
    rintro e w1 ⟨rfl, rfl⟩
    clear HN
    go_wp2_with fail
    go_ret2
    exact ⟨Below.refl _ _, .inl ⟨rfl, HG.out⟩⟩
  · obtain ⟨n, rfl⟩ : ∃ n : Nat, most = (n : Int) := ⟨most.toNat, by omega⟩
    have HN := hide (i_new_any n w (by omega) (by omega))
    have t1 : (G.length : Int) > (n : Int) := by omega
    clear hm hb
    go_enter Tryz.func64, Tryz.ntmps64
    go_wp2_with fail
    refine HN.out.mono ?_
    rintro e w1 ⟨rfl, -, hb⟩
    have HB := hide hb
    clear HN hb
    go_wp2_with fail
    go_ret2
    exact ⟨HB.out, .inl ⟨rfl, HG.out⟩⟩
theorem up_take {G : List Int} {gs : List Nat} {i x : Nat} (h : up gs = G.take i) (hi : i < G.length) (hx : G[i] = (x : Int)) : up (gs ++ [x]) = G.take (i + 1) := by
  rw [List.take_add_one, List.getElem?_eq_getElem hi, ← h, hx]
  simp [up]
theorem up_len {G : List Int} {gs : List Nat} {i : Nat} (h : up gs = G.take i) (hi : i ≤ G.length) : gs.length = i := by
  have := congrArg List.length h
  simp [up] at this
  omega
theorem up_at (gs : List Nat) (i : Nat) (h : i < (up gs).length) : (up gs)[i] = ((gs[i]'(by simpa [up] using h) : Nat) : Int) := by simp [up]
/-- Who cannot be set free. -/
theorem not_good {n k : Nat} {G F : List Int} {gs fr : List Nat} (hg : G = up gs) (hf : up fr = F.take k) (hk : k < F.length) (h : isOn gs fr F[k] = false ∨ gs.getD F[k].toNat 0 = 1000000) : ¬ Good (n : Int) G F := by
  rintro ⟨n', gs', fr', -, e2, rfl, h1, h2, h3, h4, h5, h6⟩
  obtain rfl : gs = gs' := up_inj (hg.symm.trans e2)
  have hkl : k < fr'.length := by simpa [up] using hk
  have hfr : fr = fr'.take k := up_inj (by rw [hf]; simp [up, List.map_take])
  rw [up_at] at h
  have hm := h6 fr'[k] (List.getElem_mem _)
  have hnot : fr'[k] ∉ fr := by
    rw [hfr]
    intro hc
    obtain ⟨j, hj, e⟩ := List.getElem_of_mem hc
    rw [List.getElem_take] at e
    have hjk : j < k := by simpa [hkl] using (by simp at hj; omega : j < k)
    exact (List.pairwise_iff_getElem.1 h5 j k (by omega) hkl hjk) e
  rcases h with h | h
  · have : isOn gs fr ((fr'[k] : Nat) : Int) = true := by
      simp only [isOn, on, Int.toNat_natCast, Bool.and_eq_true, decide_eq_true_eq, Bool.not_eq_true', List.contains_eq_mem, decide_eq_false_iff_not]
      exact ⟨⟨by omega, hm.1⟩, by omega, hnot⟩
    rw [this] at h
    cases h
  · simp only [Int.toNat_natCast] at h
    omega
set_option maxHeartbeats 8000000 in
set_option maxRecDepth 100000 in
theorem from_walk (n : Nat) (v1 v2 : Value) (G F : List Int) (w : World) (h1 : Is w v1 G) (h2 : Is w v2 F) (hn1 : 1 ≤ n) (hn2 : n ≤ 200) (hl : G.length ≤ n) :
    Calls Tryz.prog 64 #[.int .i64 (n : Int), v1, v2] w (Got w n G F) := by
  have H1 := hide h1
  have H2 := hide h2
  obtain ⟨ao1, c1, rfl, a1, a2, -⟩ := h1
  obtain ⟨ao2, c2, rfl, b1, b2, -⟩ := h2
  unfold maxLen at a2 b2
  have HN := hide (i_new_any n w hn1 hn2)
  have t1 : ¬ (G.length : Int) > (n : Int) := by omega
  have t0 : decide (n < G.length) = false := by simp; omega
  go_enter Tryz.func64, Tryz.ntmps64
  go_wp2_with fail
  refine HN.out.mono ?_
  rintro e w1 ⟨rfl, hp, hb⟩
  have HP := hide (hp.mono (T := fun k => w.heap.size ≤ k) (fun k e => by omega))
  have HB := hide hb
  clear hp hb HN
  go_wp2_with fail
  go_loopw [30] (fun v30 wr => ∃ (i : Nat) (gs : List Nat), i ≤ G.length ∧ v30 = .int .i64 (i : Int) ∧ Hid (up gs = G.take i) ∧ Hid (Below w.heap.size w wr) ∧ Hid (Pl wr (fun k => w.heap.size ≤ k) w.heap.size n gs [])) (fun v30 _ => G.length - (intOf v30).toNat)
  case atStart => exact ⟨0, [], Nat.zero_le _, rfl, rfl, HB, HP⟩
  case round =>
    clear HP HB
    obtain ⟨i, gs, hi, rfl, HU, HB, HP⟩ := hrel
    have hgl := up_len HU.out hi
    by_cases hlt : i < G.length
    · have t2 : (i : Int) < (G.length : Int) := by omega
      obtain ⟨_, _, ee, -, -, hcs⟩ := id (H1.out.on HB.out)
      simp only [Value.slice.injEq] at ee
      obtain ⟨rfl, -, rfl⟩ := ee
      obtain ⟨g1, o1, rfl, hc⟩ := hcs i hlt
      clear hcs
      obtain ⟨x, hx⟩ : ∃ x, x = G[i] := ⟨_, rfl⟩
      rw [← hx] at hc
      by_cases hbad : x < 1 ∨ x > 1000001
      · have HG : Hid (¬ Good (n : Int) G F) := fun ⟨n', gs', fr', e1, e2, e3, e4⟩ => by
          subst e2
          rw [up_at] at hx
          have := e4.2.2.2.1 _ (List.getElem_mem (by simpa [up] using hlt : i < gs'.length))
          omega
        clear hx
        by_cases hx1 : x < 1
        · clear hbad
          go_wp2_with fail
          go_ret2
          exact ⟨HB.out, .inl ⟨rfl, HG.out⟩⟩
        · have hx2 : x > 1000001 := by omega
          clear hbad
          go_wp2_with fail
          go_ret2
          exact ⟨HB.out, .inl ⟨rfl, HG.out⟩⟩
      · obtain ⟨y, rfl⟩ : ∃ y : Nat, x = (y : Int) := ⟨x.toNat, by omega⟩
        have t3 : ¬ (y : Int) < 1 := by omega
        have t4 : ¬ (y : Int) > 1000001 := by omega
        have HA := hide (i_add_any (x := y) HP.out (by omega) (by omega) (by omega))
        have HU1 := hide (up_take HU.out hlt hx.symm)
        have HS := hide (HB.out.size)
        clear hx hbad HU HP
        go_wp2_with fail
        refine HA.out.mono ?_
        rintro e w2 ⟨rfl, hp2, hm2⟩
        have HP2 := hide (hp2.mono (T := fun k => w.heap.size ≤ k) (fun k e => by
          rcases e with e | e
          · exact e
          · exact Nat.le_trans HS.out e))
        have HB2 := hide (HB.out.trans (hm2.below HS.out (fun _ e => e)))
        clear hp2 hm2 HA HB HS
        go_wp2_with fail
        go_roundw
        case rel => exact ⟨i + 1, gs ++ [y], by omega, by go_num, HU1, HB2, HP2⟩
        case measure => simp [intOf]; omega
    · obtain rfl : i = G.length := by omega
      have HU1 : Hid (G = up gs) := by
        have := HU.out
        rw [List.take_length] at this
        exact this.symm
      have t2 : ¬ (G.length : Int) < (G.length : Int) := by omega
      clear HU
      go_wp2_with fail
      go_loopw [46] (fun v46 wr => ∃ (k : Nat) (fr : List Nat), k ≤ F.length ∧ v46 = .int .i64 (k : Int) ∧ Hid (up fr = F.take k) ∧ Hid (Below w.heap.size w wr) ∧ Hid (Pl wr (fun k => w.heap.size ≤ k) w.heap.size n gs fr)) (fun v46 _ => F.length - (intOf v46).toNat)
      case atStart => exact ⟨0, [], Nat.zero_le _, rfl, rfl, HB, HP⟩
      case round =>
        clear HP HB
        obtain ⟨k, fr, hk, rfl, HU, HB, HP⟩ := hrel
        by_cases hlt2 : k < F.length
        · have t3 : (k : Int) < (F.length : Int) := by omega
          obtain ⟨_, _, ee, -, -, hcs⟩ := id (H2.out.on HB.out)
          simp only [Value.slice.injEq] at ee
          obtain ⟨rfl, -, rfl⟩ := ee
          obtain ⟨g2, o2, rfl, hc⟩ := hcs k hlt2
          clear hcs
          have HNG := hide (not_good (n := n) (k := k) HU1.out HU.out hlt2)
          obtain ⟨x, hx⟩ : ∃ x, x = F[k] := ⟨_, rfl⟩
          rw [← hx] at hc HNG
          have HA := hide (at_any x HP.out)
          cases hon : isOn gs fr x with
          | false =>
            have HG := hide (HNG.out (.inl hon))
            simp only [atOf, hon] at HA
            clear hx HNG hon HP
            go_wp2_with fail
            refine HA.out.mono ?_
            rintro e w2 ⟨rfl, hb2⟩
            have HB2 := hide (HB.out.trans (hb2.mono HB.out.size))
            clear hb2 HA
            unfold ev
            go_wp2_with fail
            go_ret2
            exact ⟨below_on HB2.out (below_alloc w2 _), .inl ⟨rfl, HG.out⟩⟩
          | true =>
            have hon' := hon
            simp only [isOn, on, Bool.and_eq_true, decide_eq_true_eq, Bool.not_eq_true', List.contains_eq_mem, decide_eq_false_iff_not] at hon'
            obtain ⟨⟨hx0, hxl⟩, hxg, hxf⟩ := hon'
            obtain ⟨y, rfl⟩ : ∃ y : Nat, x = (y : Int) := ⟨x.toNat, by omega⟩
            simp only [Int.toNat_natCast] at hxl hxg hxf
            simp only [atOf, hon, if_true, Int.toNat_natCast] at HA HNG
            obtain ⟨z, hz⟩ : ∃ z, z = gs.getD y 0 := ⟨_, rfl⟩
            by_cases hz1 : z = 1000000
            · have HG := hide (HNG.out (.inr (by omega)))
              rw [← hz, hz1] at HA
              clear hx HNG hon HP hz hz1
              go_wp2_with fail
              refine HA.out.mono ?_
              rintro e w2 ⟨rfl, hb2⟩
              have HB2 := hide (HB.out.trans (hb2.mono HB.out.size))
              clear hb2 HA
              unfold ev
              go_wp2_with fail
              go_ret2
              exact ⟨below_on HB2.out (below_alloc w2 _), .inl ⟨rfl, HG.out⟩⟩
            · have t4 : ((z : Int) == 1000000) = false := by rw [beq_eq_false_iff_ne]; omega
              have HU2 := hide (up_take HU.out hlt2 hx.symm)
              have HGV : Hid (∀ W, Below wr.heap.size wr W → Calls Tryz.prog 86 #[.pointer (some ⟨w.heap.size, 0, none⟩), ev (y, z)] W fun e w' => e = .returned (.int .i64 0) ∧ Pl w' (Nw W (fun k => w.heap.size ≤ k)) w.heap.size n gs (fr ++ [y]) ∧ Mv W w' (fun k => w.heap.size ≤ k)) := fun W hW => by
                have := give_live (HP.out.later hW) hxl hxg hxf
                rw [← hz, if_neg hz1, if_neg hz1] at this
                exact this
              rw [← hz] at HA
              have HS := hide (HB.out.size)
              clear hx HNG hon HP hz hz1 HU
              go_wp2_with fail
              refine HA.out.mono ?_
              rintro e w2 ⟨rfl, hb2⟩
              have HB2 := hide (HB.out.trans (hb2.mono HB.out.size))
              have HGW := hide (HGV.out _ (below_on hb2 (below_alloc w2 (.cells #[.int .i64 (y : Int), .int .i64 (z : Int)] 29))))
              clear hb2 HA HGV HB
              unfold ev at HGW ⊢
              go_wp2_with fail
              refine HGW.out.mono ?_
              rintro e w3 ⟨rfl, hp3, hm3⟩
              have hs2 : w.heap.size ≤ (w2.alloc (.cells #[.int .i64 (y : Int), .int .i64 (z : Int)] 29)).heap.size := Nat.le_trans HB2.out.size (by simp)
              have HP3 := hide (hp3.mono (T := fun k => w.heap.size ≤ k) (fun k e => by
                rcases e with e | e
                · exact e
                · exact Nat.le_trans hs2 e))
              have HB3 := hide ((below_on HB2.out (below_alloc w2 _)).trans (hm3.below hs2 (fun _ e => e)))
              clear hp3 hm3 HGW HS hs2 HB2
              go_wp2_with fail
              go_roundw
              case rel => exact ⟨k + 1, fr ++ [y], by omega, by go_num, HU2, HB3, HP3⟩
              case measure => simp [intOf]; omega
        · obtain rfl : k = F.length := by omega
          have HU2 : Hid (F = up fr) := by
            have := HU.out
            rw [List.take_length] at this
            exact this.symm
          have t3 : ¬ (F.length : Int) < (F.length : Int) := by omega
          clear HU
          go_wp2_with fail
          go_ret2
          exact ⟨HB.out, .inr ⟨_, n, gs, fr, rfl, rfl, HU1.out, HU2.out, HP.out⟩⟩
theorem from_any (most : Int) (v1 v2 : Value) (G F : List Int) (w : World) (h1 : Is w v1 G) (h2 : Is w v2 F) : Calls Tryz.prog 64 #[.int .i64 most, v1, v2] w (Got w most G F) := by
  by_cases hb : most < 1 ∨ most > 200 ∨ (G.length : Int) > most
  · exact from_bad most v1 v2 G F w h1 h2 hb
  · obtain ⟨n, rfl⟩ : ∃ n : Nat, most = (n : Int) := ⟨most.toNat, by omega⟩
    exact from_walk n v1 v2 G F w h1 h2 (by omega) (by omega) (by omega)
end Go.Proofs.YtafmiolehlagkaaGreat
