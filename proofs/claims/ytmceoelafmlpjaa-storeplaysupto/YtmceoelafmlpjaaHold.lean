/-
  What an owner has written over and keeps: a pair's list of it; the law's looks.
-/
import Derived.Test.YtmceoelafmlpjaaLend
namespace Go.Proofs.Ytmceoelafmlpjaa
open Go.RowKit
theorem info59 : (Try.prog.info? 59).map (fun i => (i.zero, i.size, i.bytes)) = some (some (.agg #[.slice none 0 0, .int .u8 0]), 2, 32) := by kernel_rfl
/-- But for some blocks all that was there is as it was. -/
def Mv (w w' : World) (S : Nat → Prop) : Prop := w'.os = w.os ∧ w'.tape = w.tape ∧ w'.output = w.output ∧ w.heap.size ≤ w'.heap.size ∧ ∀ k, k < w.heap.size → ¬ S k → w'.heap[k]? = w.heap[k]?
section
variable {w w' w2 : World} {S S' : Nat → Prop}
theorem Mv.refl (w : World) (S : Nat → Prop) : Mv w w S := ⟨rfl, rfl, rfl, Nat.le_refl _, fun _ _ _ => rfl⟩
theorem Mv.trans (h : Mv w w' S) (k : Mv w' w2 S') (hs : ∀ k, k < w.heap.size → S' k → S k) : Mv w w2 S :=
  ⟨k.1.trans h.1, k.2.1.trans h.2.1, k.2.2.1.trans h.2.2.1, Nat.le_trans h.2.2.2.1 k.2.2.2.1, fun q hq hn => (k.2.2.2.2 q (Nat.lt_of_lt_of_le hq h.2.2.2.1) (fun e => hn (hs q hq e))).trans (h.2.2.2.2 q hq hn)⟩
theorem Mv.grown {row : Option Nat} (h : Mv w w' S) (hg : w'.grownBy w2 row) (hr : ∀ k, k < w.heap.size → row = some k → S k) : Mv w w2 S :=
  ⟨hg.1.trans h.1, hg.2.trans h.2.1, hg.3.trans h.2.2.1, Nat.le_trans h.2.2.2.1 hg.size, fun k hk h1 => (hg.block k (Nat.lt_of_lt_of_le hk h.2.2.2.1) (fun e => h1 (hr k hk e.symm))).trans (h.2.2.2.2 k hk h1)⟩
theorem Mv.alloc (h : Mv w w' S) (o : Obj) : Mv w (w'.alloc o) S := h.grown (World.grownBy_alloc w' o none) (fun _ _ e => by cases e)
theorem Mv.set (h : Mv w w' S) {g : Nat} (hg : S g) (k : Nat) (u : Value) : Mv w (w'.setCell ⟨g, k, none⟩ u) S := h.grown (grown_set w' g k u) (fun q _ e => by cases e; exact hg)
theorem Mv.later (h : Mv w w' S) (hb : Below w'.heap.size w' w2) : Mv w w2 S := h.grown (grown_later hb) (fun _ _ e => by cases e)
theorem Mv.mono (h : Mv w w' S) (hs : ∀ k, k < w.heap.size → S k → S' k) : Mv w w' S' := ⟨h.1, h.2.1, h.2.2.1, h.2.2.2.1, fun k hk hn => h.2.2.2.2 k hk (fun e => hn (hs k hk e))⟩
theorem Mv.own {v : Value} {B e s n : Nat} {xs : List Value} (h : Mv w w' S) (hv : w.ownsRow B e s v n xs) (h1 : ∀ k, v.ownBlock = some k → ¬ S k) : w'.ownsRow B e s v n xs := by
  refine ⟨hv.1, ?_⟩
  rcases hv.2 with h0 | ⟨g, cap, cur, rfl, hb, hg, hr⟩
  · exact .inl h0
  · exact .inr ⟨g, cap, cur, rfl, hb, (h.2.2.2.2 g (Array.getElem?_eq_some_iff.1 hg).1 (h1 g rfl)).trans hg, hr⟩
theorem Mv.at {g : Nat} {o : Obj} (h : Mv w w' S) (hg : w.heap[g]? = some o) (h1 : ¬ S g) : w'.heap[g]? = some o := (h.2.2.2.2 g (Array.getElem?_eq_some_iff.1 hg).1 h1).trans hg
theorem Mv.below {B : Nat} (h : Mv w w' S) (hB : B ≤ w.heap.size) (hs : ∀ k, S k → B ≤ k) : Below B w w' :=
  ⟨h.1, h.2.1, h.2.2.1, h.2.2.2.1, fun k hk => h.2.2.2.2 k (Nat.lt_of_lt_of_le hk hB) (fun e => by have := hs k e; omega)⟩
end
/-- It reads as this byte alone. -/
def Hd (w : World) (v : Value) (m : Nat) : Prop := ∃ ao n c, v = .slice ao n c ∧ n ≤ c ∧ c ≤ maxLen ∧ ∀ k, k < n → ∃ g o, ao = some ⟨g, o, none⟩ ∧ w.cell? ⟨g, o + k, none⟩ = some (.int .u8 m)
theorem Hd.same {w w' : World} {v : Value} {m : Nat} (h : Hd w v m) (hs : ∀ g, v.ownBlock = some g → g < w.heap.size → w'.heap[g]? = w.heap[g]?) : Hd w' v m := by
  obtain ⟨ao, n, c, rfl, h1, h2, h3⟩ := h
  refine ⟨ao, n, c, rfl, h1, h2, fun k hk => ?_⟩
  obtain ⟨g, o, rfl, hc⟩ := h3 k hk
  exact ⟨g, o, rfl, (World.cell?_of_block (hs g rfl (World.block_lt_of_cell? w _ hc))).trans hc⟩
def flat : List (Value × Nat) → List Value
  | [] => []
  | h :: t => h.1 :: .int .u8 h.2 :: flat t
theorem flat_append : ∀ (a b : List (Value × Nat)), flat (a ++ b) = flat a ++ flat b
  | [], _ => rfl
  | h :: t, b => by simp [flat, flat_append t b]
theorem flat_at : ∀ (hs : List (Value × Nat)) (j : Nat) (h : j < hs.length), (flat hs)[j * 2]? = some hs[j].1 ∧ (flat hs)[j * 2 + 1]? = some (.int .u8 hs[j].2)
  | h :: t, 0, _ => ⟨rfl, rfl⟩
  | h :: t, j + 1, hj => by
    have := flat_at t j (by simpa using hj)
    rw [show (j + 1) * 2 = j * 2 + 1 + 1 by omega]
    simpa [flat] using this
/-- A pair's block, and the list of what it keeps. -/
def Kp (w : World) (B gp : Nat) (pa pb : Value) (vk : Value) (hs : List (Value × Nat)) (lg : Int) : Prop :=
  w.heap[gp]? = some (.cells #[pa, pb, vk, .int .i64 lg] 56 (0, 0)) ∧ w.ownsRow B 59 2 vk hs.length (flat hs) ∧ (∀ h ∈ hs, Hd w h.1 h.2 ∧ h.2 < 256 ∧ Ap h.1 vk ∧ ∀ g, h.1.ownBlock = some g → g ≠ gp ∧ g < w.heap.size) ∧ B ≤ gp ∧ vk.ownBlock ≠ some gp ∧ 0 ≤ lg ∧ lg ≤ 4
section
variable {w w' : World} {B gp : Nat} {pa pb vk : Value} {hs : List (Value × Nat)} {lg : Int}
theorem Kp.lt (h : Kp w B gp pa pb vk hs lg) : gp < w.heap.size := (Array.getElem?_eq_some_iff.1 h.1).1
theorem Kp.frame (h : Kp w B gp pa pb vk hs lg) (hsz : w.heap.size ≤ w'.heap.size) (hp : w'.heap[gp]? = w.heap[gp]?) (hk : ∀ k, vk.ownBlock = some k → w'.heap[k]? = w.heap[k]?) (hh : ∀ x ∈ hs, ∀ k, x.1.ownBlock = some k → w'.heap[k]? = w.heap[k]?) : Kp w' B gp pa pb vk hs lg := by
  obtain ⟨h1, h2, h3, h4, h5, h6⟩ := h
  refine ⟨hp.trans h1, ?_, fun x hx => ?_, h4, h5, h6⟩
  · refine ⟨h2.1, ?_⟩
    rcases h2.2 with h0 | ⟨g, cap, cur, rfl, hb, hg, hr⟩
    · exact .inl h0
    · exact .inr ⟨g, cap, cur, rfl, hb, (hk g rfl).trans hg, hr⟩
  · obtain ⟨a1, a2, a3, a4⟩ := h3 x hx
    exact ⟨a1.same (fun g hg _ => hh x hx g hg), a2, a3, fun g hg => ⟨(a4 g hg).1, Nat.lt_of_lt_of_le (a4 g hg).2 hsz⟩⟩
theorem Kp.later (h : Kp w B gp pa pb vk hs lg) (hb : Below w.heap.size w w') : Kp w' B gp pa pb vk hs lg :=
  h.frame hb.size (hb.block gp h.lt) (fun k hk => hb.block k (h.2.1.lt k hk).2) (fun x hx k hk => hb.block k ((h.2.2.1 x hx).2.2.2 k hk).2)
end
set_option maxHeartbeats 4000000 in
set_option maxRecDepth 100000 in
theorem looks_any {B gp : Nat} {pa pb vk : Value} {hs : List (Value × Nat)} {lg : Int} (w : World) (hk : Kp w B gp pa pb vk hs lg) :
    Calls Try.prog 9 #[.pointer (some ⟨gp, 0, none⟩)] w fun e w' => e = .returned (.bool true) ∧ ∃ d, w' = w.drewN d := by
  have cp : w.cell? ⟨gp, 2, none⟩ = some vk := by rw [cell_of_row w gp _ _ 56 (0, 0) hk.1]; rfl
  obtain ⟨aok, capk, rfl⟩ := own_len hk.2.1
  obtain ⟨hc1, hc2⟩ := own_cap hk.2.1
  have HK := hide hk
  clear hk
  go_enter Try.func9, Try.ntmps9
  go_wp2_with fail
  go_loopw [3] (fun v3 wr => ∃ j : Nat, j ≤ hs.length ∧ v3 = .int .i64 j ∧ ∃ d, wr = w.drewN d) (fun v3 _ => hs.length - (intOf v3).toNat)
  case atStart => exact ⟨0, Nat.zero_le _, rfl, 0, rfl⟩
  case round =>
    obtain ⟨j, hj, rfl, d, rfl⟩ := hrel
    by_cases hlt : j < hs.length
    · obtain ⟨gv, rfl⟩ : ∃ g, aok = some ⟨g, 0, none⟩ := by
        rcases HK.out.2.1.2 with ⟨_, e⟩ | ⟨g, c', cur, e, _⟩
        · omega
        · simp only [Value.slice.injEq] at e
          exact ⟨g, e.1⟩
      obtain ⟨f1, f2⟩ := flat_at hs j hlt
      have c1 := (HK.out.2.1.cellAt (j * 2) (by omega)).trans f1
      have c2 := (HK.out.2.1.cellAt (j * 2 + 1) (by omega)).trans f2
      obtain ⟨a1, a2, _, _⟩ := HK.out.2.2.1 _ (List.getElem_mem hlt)
      have e1 : (j : Int) < (hs.length : Int) := by omega
      clear f1 f2
      obtain ⟨ao, n, c, hv, hn, hc, hk⟩ := a1
      rw [hv] at c1
      unfold maxLen at hc
      generalize hs[j].2 = m at *
      have HKK := hide hk
      have HV := hide hv
      clear hk hv
      go_wp2_with fail
      go_loopw [4] (fun v4 wr => ∃ k : Nat, k ≤ n ∧ v4 = .int .i64 k ∧ ∃ d, wr = w.drewN d) (fun v4 _ => n - (intOf v4).toNat)
      case atStart => exact ⟨0, Nat.zero_le _, rfl, d, rfl⟩
      case round =>
        obtain ⟨k, hkn, rfl, d', rfl⟩ := hrel
        by_cases hlt2 : k < n
        · obtain ⟨g, o, rfl, hck⟩ := HKK.out k hlt2
          have e2 : (k : Int) < (n : Int) := by omega
          have z1 : ((m : Int) != m) = false := by simp
          go_wp2_with fail
          go_quiet (fail)
          go_wp2_with fail
          go_roundw
          case rel => exact ⟨k + 1, by omega, by go_num, d' + nq, by simp⟩
          case measure => simp [intOf]; omega
        · have e2 : ¬ (k : Int) < (n : Int) := by omega
          go_wp2_with fail
          go_roundw
          case rel => exact ⟨j + 1, by omega, by go_num, d', rfl⟩
          case measure => simp [intOf]; omega
    · have e1 : ¬ (j : Int) < (hs.length : Int) := by omega
      go_wp2_with fail
      go_ret
      exact ⟨rfl, d, rfl⟩
end Go.Proofs.Ytmceoelafmlpjaa
