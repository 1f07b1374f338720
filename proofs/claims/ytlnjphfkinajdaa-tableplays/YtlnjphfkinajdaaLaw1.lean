/-
  The law's takes and looks, over all that it knows.
-/
import Derived.Test.YtlnjphfkinajdaaTk2
namespace Go.Proofs.Ytlnjphfkinajdaa
open Go.RowKit
/-- What is nobody's stays, and stays nobody's, but for v. -/
def K1 (v : Value) (own : Nat → Nat) (w : World) (own' : Nat → Nat) (w' : World) : Prop := Mv w w' (fun k => own k ≠ 0 ∨ v.ownBlock = some k) ∧ ∀ k, k < w.heap.size → own k = 0 → v.ownBlock ≠ some k → own' k = 0
section
variable {w : World} {own : Nat → Nat} {gw n M : Nat} {G : Nat → Nat × Nat} {C D : Nat → Ts} {L : List Held}
theorem takes_any (h : Bw w gw M own G n C D L) (v : Value) (nv : Nat) (xs : List Int) (hv : w.ownsRow 0 2 1 v nv (zc xs)) (hv0 : ∀ q, v.ownBlock = some q → own q = 0) (hnv : nv ≤ 1000000) (hL : L.length ≤ 1000000) :
    Calls Try.prog 42 #[.pointer (some ⟨gw, 0, none⟩), v] w fun e w' => e = .returned (.tuple #[]) ∧ ∃ own' L', Bw w' gw M own' G n C D L' ∧ L'.length = L.length + 2 ∧ K1 v own w own' w' := by
  have HH := h
  obtain ⟨h1, h2, vl, vi, vm, k1, ⟨s0, s1, s2, s3⟩, k2⟩ := h
  have hx : Wx w gw vl vi vm G n (L.map (·.1)) (L.map (·.2)) := by
    obtain ⟨a1, a2, a3, a4, a5⟩ := k1
    exact ⟨a1, a2, by rw [List.length_map]; exact a3, by rw [List.length_map]; exact a4, a5⟩
  have ap : ∀ u : Value, In (Lb own w 1) u → Ap v u := fun u hu q e1 e2 => by have := hv0 q e1; have := (hu q e2).2; omega
  refine (takes_walk gw n nv vl vi vm v G _ _ xs w hx ⟨hv, fun e => by have := hv0 gw e; have := s0.2; omega, ap vl s1, ap vi s2, ap vm s3⟩ hnv (by simpa using hL) (by simpa using hL)).mono ?_
  rintro e w' ⟨rfl, vi', vm', c, m, ⟨t1, t2, t3, t4⟩, r1, r2, r3⟩
  have hsz := t2.size
  have hvl := fun q e => (t1.2.1.lt q e).2
  have hturn : ∃ own', Bw w' gw M own' G n C D (L ++ [(v, m)] ++ [(c, m)]) ∧ ∀ k, k < w.heap.size → own k = 0 → ¬ (v.ownBlock = some k ∨ w.heap.size ≤ k) → own' k = 0 := by
    refine HH.turnW (n' := 0) (R := fun k => v.ownBlock = some k ∨ w.heap.size ≤ k) (S' := fun k => k = gw ∨ vl.ownBlock = some k ∨ vi'.ownBlock = some k ∨ vm'.ownBlock = some k) (H' := fun k => Lb own w 2 k ∨ v.ownBlock = some k ∨ c.ownBlock = some k) (w' := w') (L' := L ++ [(v, m)] ++ [(c, m)]) (fun k e => ?hR) ?hw (fun k e => ?hs) (fun k e => ?hh) ?hm
    case hR =>
      rcases e with e | e
      · exact .inl (hv0 k e)
      · exact .inr e
    case hw =>
      refine ⟨vl, vi', vm', ?_, ⟨.inl rfl, fun q e => .inr (.inl e), fun q e => .inr (.inr (.inl e)), fun q e => .inr (.inr (.inr e))⟩, fun y hy => ?_⟩
      · obtain ⟨a1, a2, a3, a4, a5⟩ := t1
        refine ⟨a1, a2, ?_, ?_, a5⟩
        · simpa using a3
        · simpa using a4
      · rw [List.mem_append, List.mem_append] at hy
        rcases hy with (hy | hy) | hy
        · refine ⟨(k2 y hy).1.frame t2 (fun q e e' => ?_), fun q e => .inl ((k2 y hy).2 q e)⟩
          have h5 := ((k2 y hy).2 q e).2
          rcases e' with rfl | e' | e' | e'
          · have := s0.2; omega
          · have := (s2 q e').2; omega
          · have := (s3 q e').2; omega
          · have := hv0 q e'; omega
        · simp only [List.mem_singleton] at hy
          subst hy
          exact ⟨⟨nv, r1.1, by omega⟩, fun q e => .inr (.inl e)⟩
        · simp only [List.mem_singleton] at hy
          subst hy
          exact ⟨⟨nv + 64, r2.1, by omega⟩, fun q e => .inr (.inr e)⟩
    case hs =>
      rcases e with rfl | e | e | e
      · exact ⟨t1.lt, .inl s0⟩
      · exact ⟨hvl k e, .inl (s1 k e)⟩
      · refine ⟨(t1.2.2.1.lt k e).2, ?_⟩
        rcases t3 k e with h | h
        · exact .inl (s2 k h)
        · exact .inr h
      · refine ⟨(t1.2.2.2.1.lt k e).2, ?_⟩
        rcases t4 k e with h | h
        · exact .inl (s3 k h)
        · exact .inr h
    case hh =>
      have key : ∀ u : Value, (∃ nu lu, Rv w' gw vl vi' vm' u nu lu) → u.ownBlock = some k → ¬ (k = gw ∨ vl.ownBlock = some k ∨ vi'.ownBlock = some k ∨ vm'.ownBlock = some k) := fun u ⟨nu, lu, hr⟩ e r => by
        obtain ⟨-, r0, r1, r2, r3⟩ := hr
        rcases r with rfl | r | r | r
        · exact r0 e
        · exact r1 k e r
        · exact r2 k e r
        · exact r3 k e r
      rcases e with e | e | e
      · refine ⟨Nat.lt_of_lt_of_le e.1 hsz, fun r => ?_, .inl e⟩
        have h5 := e.2
        have hk := e.1
        rcases r with rfl | r | r | r
        · have := s0.2; omega
        · have := (s1 k r).2; omega
        · rcases t3 k r with h | h
          · have := (s2 k h).2; omega
          · omega
        · rcases t4 k r with h | h
          · have := (s3 k h).2; omega
          · omega
      · exact ⟨(r1.1.lt k e).2, key v ⟨_, _, r1⟩ e, .inr (.inl e)⟩
      · exact ⟨(r2.1.lt k e).2, key c ⟨_, _, r2⟩ e, .inr (r3 k e)⟩
    case hm =>
      refine t2.mono (fun k hk e => ?_)
      rcases e with rfl | e | e | e
      · exact .inl s0
      · exact .inl (s2 k e)
      · exact .inl (s3 k e)
      · exact .inr (.inl e)
  obtain ⟨own', b1, b2⟩ := hturn
  refine ⟨rfl, own', _, b1, by simp, t2.mono (fun k hk e => ?_), fun k hk h0 hne => b2 k hk h0 (fun e => ?_)⟩
  · rcases e with rfl | e | e | e
    · exact .inl (by have := s0.2; omega)
    · exact .inl (by have := (s2 k e).2; omega)
    · exact .inl (by have := (s3 k e).2; omega)
    · exact .inr e
  · rcases e with e | e
    · exact hne e
    · omega
set_option maxHeartbeats 4000000 in
theorem looks_any (h : Bw w gw M own G n C D L) (hL : L.length ≤ 1000000) :
    Calls Try.prog 8 #[.pointer (some ⟨gw, 0, none⟩)] w fun e w' => e = .returned (.bool true) ∧ Below w.heap.size w w' := by
  obtain ⟨-, -, vl, vi, vm, k1, -, k2⟩ := h
  obtain ⟨ai, ci, rfl⟩ := own_len k1.2.2.1
  obtain ⟨am, cm, rfl⟩ := own_len k1.2.2.2.1
  have HK := hide k1
  have HA : Hid (∀ i (hi : i < L.length), Al w L[i].1 L[i].2) := fun i hi => (k2 _ (List.getElem_mem hi)).1
  clear k1 k2
  go_enter Try.func8, Try.ntmps8
  go_wp2_with fail
  go_loopw [3] (fun v3 wr => ∃ i : Nat, i ≤ L.length ∧ v3 = .int .i64 (i : Int) ∧ Hid (Below w.heap.size w wr)) (fun v3 _ => L.length - (intOf v3).toNat)
  case atStart => exact ⟨0, Nat.zero_le _, rfl, Below.refl _ _⟩
  case round =>
    obtain ⟨i, hil, rfl, HW⟩ := hrel
    obtain ⟨-, c1, c2⟩ := (HK.out.later HW.out).cell
    by_cases hlt : i < L.length
    · have t1 : (i : Int) < (L.length : Int) := by omega
      have hr := HK.out.2.2.1
      obtain ⟨gi, ci', e, -, -⟩ := own_form hr (by omega)
      simp only [Value.slice.injEq] at e
      obtain ⟨rfl, -, rfl⟩ := e
      have hq := HK.out.2.2.2.1
      obtain ⟨gm, cm', e, -, -⟩ := own_form hq (by omega)
      simp only [Value.slice.injEq] at e
      obtain ⟨rfl, -, rfl⟩ := e
      obtain ⟨nx, hx, hx8⟩ := HA.out i hlt
      have HC : Hid (∀ W, Below w.heap.size w W → W.cell? ⟨gw, 1, none⟩ = some (.slice (some ⟨gi, 0, none⟩) L.length ci) ∧ W.cell? ⟨gw, 2, none⟩ = some (.slice (some ⟨gm, 0, none⟩) L.length cm) ∧ W.cell? ⟨gi, i, none⟩ = some L[i].1 ∧ W.cell? ⟨gm, i, none⟩ = some (.int .i64 L[i].2)) := fun W hW => by
        have h1 := HK.out.later hW
        have h2 := own_slices h1.2.2.1 i (by simpa using hlt)
        have h3 := own_num h1.2.2.2.1 i (by simpa using hlt)
        simp only [List.getElem_map] at h2 h3
        exact ⟨h1.cell.2.1, h1.cell.2.2, h2, h3⟩
      obtain ⟨vx, hvx⟩ : ∃ v, v = L[i].1 := ⟨_, rfl⟩
      obtain ⟨m, hm⟩ : ∃ m, m = L[i].2 := ⟨_, rfl⟩
      rw [← hvx, ← hm] at HC
      rw [← hvx, ← hm] at hx
      clear hvx hm
      obtain ⟨ax, cx, rfl⟩ := own_len hx
      have HX : Hid (∀ W, Below w.heap.size w W → ∀ j, j < nx → ∃ gx, ax = some ⟨gx, 0, none⟩ ∧ W.cell? ⟨gx, j, none⟩ = some (.int .i64 m)) := fun W hW j hj => by
        have h1 := own_later hx hW
        obtain ⟨gx, cx', e, -, -⟩ := own_form h1 (by omega)
        simp only [Value.slice.injEq] at e
        obtain ⟨rfl, -, rfl⟩ := e
        refine ⟨gx, rfl, ?_⟩
        have := own_num h1 j (by simpa using hj)
        simpa using this
      clear hx hr hq c1 c2
      obtain ⟨c1, c2, c3, c4⟩ := HC.out wr HW.out
      go_wp2_with fail
      go_loopw [4] (fun v4 W => ∃ j : Nat, j ≤ nx ∧ v4 = .int .i64 (j : Int) ∧ Hid (Below w.heap.size w W)) (fun v4 _ => nx - (intOf v4).toNat)
      case atStart => exact ⟨0, Nat.zero_le _, rfl, HW⟩
      case round =>
        obtain ⟨j, hjl, rfl, HV⟩ := hrel
        clear c1 c2 c3 c4
        obtain ⟨c1, c2, c3, c4⟩ := HC.out wr HV.out
        by_cases hj : j < nx
        · have t2 : (j : Int) < (nx : Int) := by omega
          obtain ⟨gx, rfl, c5⟩ := HX.out wr HV.out j hj
          go_upto_region 7 with fail
          go_region_held3 (fun W => W.cell? ⟨gw, 1, none⟩ = some (.slice (some ⟨gi, 0, none⟩) L.length ci) ∧ W.cell? ⟨gw, 2, none⟩ = some (.slice (some ⟨gm, 0, none⟩) L.length cm) ∧ W.cell? ⟨gi, i, none⟩ = some (.slice (some ⟨gx, 0, none⟩) nx cx) ∧ W.cell? ⟨gm, i, none⟩ = some (.int .i64 m) ∧ W.cell? ⟨gx, j, none⟩ = some (.int .i64 m)) (go_keep) (fail)
          go_wp2_with fail
          go_roundw
          case rel => exact ⟨j + 1, by omega, by go_num, below_on HV.out (below_drew _)⟩
          case measure => simp [intOf]; omega
        · have t2 : ¬ (j : Int) < (nx : Int) := by omega
          go_wp2_with fail
          go_roundw
          case rel => exact ⟨i + 1, by omega, by go_num, HV⟩
          case measure => simp [intOf]; omega
    · have t1 : ¬ (i : Int) < (L.length : Int) := by omega
      go_wp2_with fail
      go_ret
      exact ⟨rfl, HW.out⟩
end
end Go.Proofs.Ytlnjphfkinajdaa
