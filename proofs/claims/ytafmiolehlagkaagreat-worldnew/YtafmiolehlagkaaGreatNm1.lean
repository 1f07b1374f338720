import Derived.Test.YtafmiolehlagkaaGreatNLentM
import Derived.Maps.AppendAt
import Derived.Test.YtafmiolehlagkaaGreatTLate
/-
  World: kinds cloned, their fields apart from one another.
-/
namespace Go.Proofs.YtafmiolehlagkaaGreat
open Go.RowKit
set_option maxRecDepth 100000
def Apt (L : List Kc) (i : Nat) : Prop := ∀ j j' (h : j < L.length) (h' : j' < L.length), j < j' → j' < i → ∀ q q', (kcV L[j]).ownBlock = some q → (kcV L[j']).ownBlock = some q' → q < q'
def Cl (w w1 W : World) (v : Value) (ks : List Kind) (L : List Kc) (i : Nat) : Prop := Ck w w1 W v ks L i ∧ Apt L i
theorem Cl.turn {w w1 W W2 : World} {g c : Nat} {ks : List Kind} {L : List Kc} {i : Nat} (h : Cl w w1 W (.slice (some ⟨g, 0, none⟩) ks.length c) ks L i) (hi : i < ks.length) (hb : Below W.heap.size W W2) {a2 : Option Addr} {n2 c2 : Nat} (ho : W2.ownsRow W.heap.size 9 1 (.slice a2 n2 c2) ks[i].2.length (sz ks[i].2)) :
    (W2.cell? ⟨g, i * 2 + 1, none⟩ = some (kcV (L[i]'(by rw [h.1.1]; exact hi))) ∧ W2.frozen? ⟨g, i * 2 + 1, none⟩ = false) ∧ ∃ L', Cl w w1 (W2.setCell ⟨g, i * 2 + 1, none⟩ (.slice a2 n2 c2)) (.slice (some ⟨g, 0, none⟩) ks.length c) ks L' (i + 1) := by
  obtain ⟨⟨h1, h2, h3, h4, h5, h6, h7⟩, hA⟩ := h
  have hL : i < L.length := by omega
  have h3' := own_later h3 hb
  have hg := h7 g rfl
  refine ⟨⟨by rw [h3'.cellAt (i * 2 + 1) (by omega)]; exact (kz_at L i hL).2, h3'.frozenAt _⟩, L.set i (L[i].1, a2, n2, c2), ⟨by rw [List.length_set]; exact h1, fun j j1 j2 => ?_, ?_, ?_, ?_, h6, h7⟩, fun j j' q1 q2 hjj hj' q q' e e' => ?_⟩
  · rw [List.length_set] at j1
    obtain ⟨k1, k2⟩ := h2 j j1 j2
    by_cases e : i = j
    · subst e
      rw [List.getElem_set_self]
      refine ⟨k1, fun _ => own_set (own_lower ho h5) (fun e' => ?_)⟩
      have := (ho.lt g e').1
      omega
    · rw [List.getElem_set_ne e]
      refine ⟨k1, fun hj => own_set (own_later (k2 (by omega)) hb) (fun e' => ?_)⟩
      have := ((k2 (by omega)).lt g e').1
      omega
  · have := (h3'.stored (i * 2 + 1) (.slice a2 n2 c2)).1
    rw [show (Value.slice a2 n2 c2) = .slice (a2, n2, c2).1 (a2, n2, c2).2.1 (a2, n2, c2).2.2 from rfl, kz_set L i (a2, n2, c2) hL] at this
    exact this
  · have := (h3.lt g rfl).1
    exact (below_on h4 hb).grown (grown_set _ _ _ _) (by have := hb.size; have := h4.size; omega) (fun k e => by cases e; omega)
  · have := (grown_set W2 g (i * 2 + 1) (.slice a2 n2 c2)).size
    have := hb.size
    omega
  · have q1' : j < L.length := by rwa [List.length_set] at q1
    have q2' : j' < L.length := by rwa [List.length_set] at q2
    by_cases c1 : j' = i
    · subst c1
      rw [List.getElem_set_ne (by omega)] at e
      rw [List.getElem_set_self] at e'
      have y1 := (((h2 j q1' (by omega)).2 hjj).lt q e).2
      have y2 := (ho.lt q' e').1
      omega
    · rw [List.getElem_set_ne (by omega)] at e
      rw [List.getElem_set_ne (by omega)] at e'
      exact hA j j' q1' q2' hjj (by omega) q q' e e'
/-- Kinds in memory of their own, their fields apart from one another. -/
def Ka (B : Nat) (w : World) (v : Value) (ks : List Kind) : Prop := ∃ L, w.ownsRow B 119 2 v ks.length (kz L) ∧ L.length = ks.length ∧ (∀ i (h1 : i < L.length) (h2 : i < ks.length), L[i].1 = ks[i].1 ∧ w.ownsRow B 9 1 (kcV L[i]) ks[i].2.length (sz ks[i].2)) ∧ Apt L ks.length
theorem Ka.ko {B : Nat} {w : World} {v : Value} {ks : List Kind} (h : Ka B w v ks) : Ko B w v ks := by
  obtain ⟨L, h1, h2, h3, -⟩ := h
  exact ⟨L, h1, h2, h3⟩
theorem Cl.fin {w w1 W : World} {v : Value} {ks : List Kind} {L : List Kc} (h : Cl w w1 W v ks L ks.length) : Ka w.heap.size W v ks ∧ Below w.heap.size w W := by
  obtain ⟨⟨h1, h2, h3, h4, h5, h6, h7⟩, hA⟩ := h
  exact ⟨⟨L, h3, h1, fun i i1 i2 => ⟨(h2 i i1 i2).1, own_lower ((h2 i i1 i2).2 i2) h6⟩, hA⟩, h4⟩
set_option maxHeartbeats 4000000 in
theorem clone_kinds2 {w : World} {v : Value} {ks : List Kind} (h : Kr w v ks) (hn : ks.length ≤ 1000) (hf : ∀ k ∈ ks, k.2.length ≤ 1000) :
    Calls Tryz.prog 73 #[v] w fun e w' => ∃ v', e = .returned v' ∧ Ka w.heap.size w' v' ks ∧ Below w.heap.size w w' := by
  have HK := hide h
  obtain ⟨L0, hkl, hlen, hsr⟩ := h.kl
  have JC := hide (clone_kl v L0 w hkl (by omega))
  have HN : Hid (L0.length = ks.length) := hlen
  have HR : Hid (∀ i (h1 : i < L0.length) (h2 : i < ks.length), L0[i].1 = ks[i].1) := fun i h1 h2 => (hsr i h1 h2).1
  clear hsr hkl
  obtain ⟨ao, c, rfl, h1, h2, h3⟩ := h
  have hbig : c ≤ 9223372036854775807 := by unfold maxLen at h2; omega
  have HF := hide hf
  clear h3 h2 hf hlen
  go_enter Tryz.func73, Tryz.ntmps73
  go_wp2_with fail
  refine JC.out.mono ?_
  rintro e w1 ⟨v', rfl, ho, hb⟩
  rw [HN.out] at ho
  have hlt := ho.lt
  have hbs := hb.size
  obtain ⟨a', c', rfl⟩ := own_len ho
  have H0 : Hid (∃ L, Cl w w1 w1 (.slice a' ks.length c') ks L 0) := ⟨L0, ⟨HN.out, fun j j1 j2 => ⟨HR.out j j1 j2, fun e => absurd e (by omega)⟩, ho, hb, Nat.le_refl _, hb.size, fun k e => (hlt k e).2⟩, fun j j' h h' h1 h2 => absurd h2 (by omega)⟩
  have hc' := (own_cap ho)
  clear ho hlt HR JC hb HN
  go_wp2_with fail
  go_loopw [10] (fun v10 W => ∃ i : Nat, i ≤ ks.length ∧ v10 = .int .i64 (i : Int) ∧ Hid (∃ L, Cl w w1 W (.slice a' ks.length c') ks L i)) (fun v10 _ => ks.length - (intOf v10).toNat)
  case atStart => exact ⟨0, Nat.zero_le _, rfl, H0⟩
  case round =>
    obtain ⟨i, hil, rfl, HC⟩ := hrel
    by_cases hlt : i < ks.length
    · have t1 : (i : Int) < (ks.length : Int) := by omega
      have t2 : (0 : Int) ≤ (i : Int) := by omega
      obtain ⟨L, hC⟩ := HC.out
      obtain ⟨ao2, c2, e2, -, -, h3⟩ := HK.out.later hC.1.2.2.2.1
      simp only [Value.slice.injEq, true_and] at e2
      obtain ⟨rfl, rfl⟩ := e2
      obtain ⟨g, o, vf, rfl, y1, y2, y3⟩ := h3 i hlt
      obtain ⟨g', c3, e3, -, -⟩ := own_form hC.1.2.2.1 (by omega)
      simp only [Value.slice.injEq, true_and] at e3
      obtain ⟨rfl, rfl⟩ := e3
      have hfl := HF.out _ (List.getElem_mem hlt)
      have HT : Hid (∀ (W2 : World), Below (wr.alloc (.cells #[.string ks[i].1, vf] 119)).heap.size (wr.alloc (.cells #[.string ks[i].1, vf] 119)) W2 → ∀ a2 n2 c2, W2.ownsRow (wr.alloc (.cells #[.string ks[i].1, vf] 119)).heap.size 9 1 (.slice a2 n2 c2) ks[i].2.length (sz ks[i].2) → (W2.cell? ⟨g', i * 2 + 1, none⟩ = some (kcV (L[i]'(by rw [hC.1.1]; exact hlt))) ∧ W2.frozen? ⟨g', i * 2 + 1, none⟩ = false) ∧ ∃ L', Cl w w1 (W2.setCell ⟨g', i * 2 + 1, none⟩ (.slice a2 n2 c2)) (.slice (some ⟨g', 0, none⟩) ks.length c') ks L' (i + 1)) := fun W2 hb2 a2 n2 c2 ho => hC.turn hlt (below_on (below_alloc wr _) hb2) (own_lower ho (by simp))
      have JT : Hid (Calls Tryz.prog 145 #[vf] (wr.alloc (.cells #[.string ks[i].1, vf] 119)) fun e w' => ∃ v', e = .returned v' ∧ w'.ownsRow (wr.alloc (.cells #[.string ks[i].1, vf] 119)).heap.size 9 1 v' ks[i].2.length (sz ks[i].2) ∧ Below (wr.alloc (.cells #[.string ks[i].1, vf] 119)).heap.size (wr.alloc (.cells #[.string ks[i].1, vf] 119)) w') := clone_texts vf _ _ (y3.on (fun a x e => ((below_alloc wr _).cell (p := a) (World.block_lt_of_cell? wr _ e)).trans e)) (by omega)
      generalize L[i]'(by rw [hC.1.1]; exact hlt) = li at *
      clear hC HC h3 hfl
      generalize ks[i] = kd at *
      obtain ⟨nm, fs⟩ := kd
      obtain ⟨af, cf, rfl, -⟩ := y3
      dsimp only at y1 y2 HT JT
      go_wp2_with fail
      refine JT.out.mono ?_
      rintro e w2 ⟨v2, rfl, ho2, hb2⟩
      obtain ⟨a2, c2, rfl⟩ := own_len ho2
      obtain ⟨⟨z1, z2⟩, hz⟩ := HT.out w2 hb2 _ _ _ ho2
      have HZ := hide hz
      clear hz HT JT ho2 hb2
      go_wp2_with fail
      go_roundw
      case rel => exact ⟨i + 1, by omega, by go_num, HZ⟩
      case measure => simp [intOf]; omega
    · obtain rfl : i = ks.length := by omega
      have t1 : ¬ (ks.length : Int) < (ks.length : Int) := by omega
      obtain ⟨L, hC⟩ := HC.out
      have HE := hide hC.fin
      clear hC HC
      go_wp2_with fail
      go_ret
      exact ⟨_, rfl, HE.out.1, HE.out.2⟩
end Go.Proofs.YtafmiolehlagkaaGreat

/-
  World: kinds that were lent, looked at, and written over.
-/
namespace Go.Proofs.YtafmiolehlagkaaGreat
open Go.RowKit
set_option maxRecDepth 100000
def ovr : ByteArray := ⟨#[79, 118, 101, 114]⟩
theorem kz_set0 : ∀ (l : List Kc) (i : Nat) (x : ByteArray) (_h : i < l.length), (kz l).set (i * 2) (.string x) = kz (l.set i (x, l[i].2))
  | p :: t, 0, x, _ => rfl
  | p :: t, i + 1, x, h => by
    have := kz_set0 t i x (by simpa using h)
    rw [show (i + 1) * 2 = i * 2 + 1 + 1 by omega]
    simpa [kz] using this
/-- Behind i of them. -/
def Su (B : Nat) (W : World) (g c : Nat) (ks : List Kind) (L : List Kc) (i : Nat) : Prop :=
  ∃ M : List Kc, M.length = ks.length ∧ W.ownsRow B 119 2 (.slice (some ⟨g, 0, none⟩) (ks.length + 2) c) (ks.length + 2) (kz (M ++ [(bh, none, 0, 0), (bh, none, 0, 0)])) ∧ ∀ j (h1 : j < M.length) (h2 : j < ks.length) (h3 : j < L.length), i ≤ j → M[j] = L[j] ∧ Lf B W ks[j] L[j]
theorem Su.at {B : Nat} {W : World} {g c i : Nat} {ks : List Kind} {L : List Kc} (h : Su B W g c ks L i) (hl : L.length = ks.length) (hi : i < ks.length) : W.cell? ⟨g, i * 2 + 1, none⟩ = some (kcV (L[i]'(by omega))) ∧ Lf B W ks[i] (L[i]'(by omega)) := by
  obtain ⟨M, h1, h2, h3⟩ := h
  obtain ⟨e1, e2⟩ := h3 i (by omega) hi (by omega) (Nat.le_refl _)
  refine ⟨?_, e2⟩
  rw [h2.cellAt (i * 2 + 1) (by omega), (kz_at _ i (by simp; omega)).2, List.getElem_append_left (by omega), e1]
theorem Su.behind {B : Nat} {W : World} {g c i : Nat} {ks : List Kind} {L : List Kc} (h : Su B W g c ks L i) (j : Nat) (hj : j = ks.length ∨ j = ks.length + 1) : W.cell? ⟨g, j * 2, none⟩ = some (.string bh) := by
  obtain ⟨M, h1, h2, h3⟩ := h
  rw [h2.cellAt (j * 2) (by omega), (kz_at _ j (by simp; omega)).1, List.getElem_append_right (by omega)]
  rcases hj with rfl | rfl
  · simp [h1]
  · simp [h1]
/-- The fields of one are written over, then it. -/
theorem Su.turn {B : Nat} {W W2 : World} {g c i : Nat} {ks : List Kind} {L : List Kc} (h : Su B W g c ks L i) (hl : L.length = ks.length) (hr : Rise L) (hi : i < ks.length) (hm : Mv W W2 (fun k => k = blk (L[i]'(by omega)))) :
    (∃ u, W2.cell? ⟨g, i * 2, none⟩ = some u) ∧ (∃ u, W2.cell? ⟨g, i * 2 + 1, none⟩ = some u) ∧ (∀ j, W2.frozen? ⟨g, j, none⟩ = false) ∧ (∃ o, W2.heap[g]? = some o) ∧ Su B ((W2.setCell ⟨g, i * 2, none⟩ (.string ovr)).setCell ⟨g, i * 2 + 1, none⟩ (.slice none 0 0)) g c ks L (i + 1) := by
  obtain ⟨M, h1, h2, h3⟩ := h
  have hLi := (h3 i (by omega) hi (by omega) (Nat.le_refl _)).2
  have hne : g ≠ blk (L[i]'(by omega)) := fun e => hLi.kinds h2 (by simp [Value.ownBlock, e])
  have h2' := hm.own h2 (fun k e => by
    simp only [Value.ownBlock, Option.some.injEq] at e
    rw [← e]
    exact hne)
  have hc := own_cap h2'
  refine ⟨⟨_, by rw [h2'.cellAt (i * 2) (by omega)]; exact (kz_at _ i (by simp; omega)).1⟩, ⟨_, by rw [h2'.cellAt (i * 2 + 1) (by omega)]; exact (kz_at _ i (by simp; omega)).2⟩, fun j => h2'.frozenAt _, ?_, ?_⟩
  · have := h2'.lt g rfl
    exact ⟨_, Array.getElem?_eq_getElem this.2⟩
  · have a1 := (h2'.stored (i * 2) (.string ovr)).1
    have a2 := (a1.stored (i * 2 + 1) (.slice none 0 0)).1
    have hMi : i < (M ++ [(bh, none, 0, 0), (bh, none, 0, 0)]).length := by simp; omega
    refine ⟨M.set i (ovr, none, 0, 0), by simpa using h1, ?_, fun j j1 j2 j3 hj => ?_⟩
    · rw [kz_set0 _ i _ hMi, show (Value.slice none 0 0) = .slice ((none, 0, 0) : Option Addr × Nat × Nat).1 ((none, 0, 0) : Option Addr × Nat × Nat).2.1 ((none, 0, 0) : Option Addr × Nat × Nat).2.2 from rfl, kz_set _ i _ (by simpa using hMi)] at a2
      simp only [List.set_set, List.getElem_set_self] at a2
      rw [List.set_append_left _ _ (by omega)] at a2
      exact a2
    · rw [List.getElem_set_ne (by omega)]
      obtain ⟨b1, b2⟩ := h3 j (by simpa using j1) j2 j3 (by omega)
      refine ⟨b1, ?_⟩
      have hlt := hr i j (by omega) j3 (by omega)
      have hb3 : Lf B W2 ks[j] L[j] := by
        obtain ⟨z1, gj, cj, z2, z3⟩ := b2
        have hbj : blk L[j] = gj := by unfold blk; rw [z2]; rfl
        refine ⟨z1, gj, cj, z2, hm.own z3 (fun k e => ?_)⟩
        simp only [Value.ownBlock, Option.some.injEq] at e
        omega
      have hkn : (some g : Option Nat) ≠ some (blk L[j]) := hb3.kinds h2'
      exact (hb3.grown (grown_set W2 g (i * 2) (.string ovr)) hkn).grown (grown_set _ g (i * 2 + 1) (.slice none 0 0)) hkn
theorem Lk.su {B : Nat} {W : World} {v : Value} {ks : List Kind} (h : Lk B W v ks) : ∃ g c L, v = .slice (some ⟨g, 0, none⟩) ks.length c ∧ ks.length + 2 ≤ c ∧ c ≤ 9223372036854775807 ∧ L.length = ks.length ∧ Rise L ∧ Su B W g c ks L 0 ∧ (B ≤ g ∧ g < W.heap.size) ∧ ∀ p ∈ L, B ≤ blk p ∧ blk p < W.heap.size := by
  obtain ⟨g, c, L, rfl, hl, ho, h3, hr⟩ := h
  have hc := own_cap ho
  refine ⟨g, c, L, rfl, hc.1, hc.2, hl, hr, ⟨L, hl, ho, fun j j1 j2 j3 _ => ⟨rfl, h3 j j1 j2⟩⟩, ho.lt g rfl, fun p hp => ?_⟩
  obtain ⟨i, hi, rfl⟩ := List.getElem_of_mem hp
  exact (h3 i hi (by omega)).lt
theorem Lk.later {B : Nat} {W W' : World} {v : Value} {ks : List Kind} (h : Lk B W v ks) (hb : Below W.heap.size W W') : Lk B W' v ks := by
  obtain ⟨g, c, L, e, hl, ho, h3, hr⟩ := h
  exact ⟨g, c, L, e, hl, own_later ho hb, fun j j1 j2 => (h3 j j1 j2).later hb, hr⟩
end Go.Proofs.YtafmiolehlagkaaGreat

/-
  World: kinds that were lent: are they as they were? (The law's stillKinds.)
-/
namespace Go.Proofs.YtafmiolehlagkaaGreat
open Go.RowKit
set_option maxRecDepth 100000
theorem eq_bh : bh.toList = [98, 101, 104, 105, 110, 100] := by simp [bh, ByteArray.toList_eq]
theorem Mv.drewN {w w' : World} {S : Nat → Prop} (h : Mv w w' S) (n : Nat) : Mv w (w'.drewN n) S := h.later (bdN _ _)
theorem Su.mv {B : Nat} {W W2 : World} {g c i : Nat} {ks : List Kind} {L : List Kc} (h : Su B W g c ks L i) (hb : Below W.heap.size W W2) : Su B W2 g c ks L i := by
  obtain ⟨M, h1, h2, h3⟩ := h
  exact ⟨M, h1, own_later h2 hb, fun j j1 j2 j3 hj => ⟨(h3 j j1 j2 j3 hj).1, (h3 j j1 j2 j3 hj).2.later hb⟩⟩
theorem Su.up {B : Nat} {W : World} {g c i i' : Nat} {ks : List Kind} {L : List Kc} (h : Su B W g c ks L i) (hi : i ≤ i') : Su B W g c ks L i' := by
  obtain ⟨M, h1, h2, h3⟩ := h
  exact ⟨M, h1, h2, fun j j1 j2 j3 hj => h3 j j1 j2 j3 (by omega)⟩
set_option maxHeartbeats 16000000 in
theorem still_kinds {w1 w : World} {va vb : Value} {ks : List Kind} {B : Nat} (h : Lk B w1 va ks) (hz : Sz ks) (hb : Below w1.heap.size w1 w) (hk : ∀ W, Mv w W (fun k => B ≤ k ∧ k < w1.heap.size) → Kr W vb ks) :
    Calls Tryz.prog 37 #[va, vb] w fun e w' => e = .returned (.bool true) ∧ Mv w w' (fun k => B ≤ k ∧ k < w1.heap.size) := by
  have JS := hide (same_kinds (h.later hb).kr (hk w (Mv.refl _ _)))
  have HK := hide hk
  obtain ⟨g, c, L, rfl, hc1, hc2, hl, hr, hsu, hg, hbl⟩ := h.su
  have HSU : Hid (Su B w g c ks L 0) := hsu.mv hb
  have HR := hide hr
  have HG := hide hg
  have HBL := hide hbl
  have HL := hide hl
  have HZ := hide hz
  have hz := hz.1
  obtain ⟨ao, cb, eb, hb1, hb2, -⟩ := hk w (Mv.refl _ _)
  subst eb
  have hb2' : cb ≤ 9223372036854775807 := by unfold maxLen at hb2; omega
  have t0 : ((ks.length : Int) + 2) ≤ (c : Int) := by omega
  have tw : IntKind.i64.wrap ((ks.length : Int) + 2) = ((ks.length + 2 : Nat) : Int) := by rw [IntKind.wrap_i64]; omega
  clear hk h hb hsu hr hg hbl hl hb2
  go_enter Tryz.func37, Tryz.ntmps37
  go_wp2_with fail
  refine JS.out.mono ?_
  rintro e w2 ⟨rfl, hb2⟩
  have HM2 : Hid (Mv w w2 (fun k => B ≤ k ∧ k < w1.heap.size)) := Mv.of_below hb2 _
  have HS2 : Hid (Su B w2 g c ks L 0) := HSU.out.mv hb2
  clear hb2 JS HSU
  go_wp2_with fail
  go_loopw [5, 7] (fun v5 v7 W => ∃ i : Nat, i ≤ ks.length + 2 ∧ v5 = .bool true ∧ v7 = .int .i64 (i : Int) ∧ Hid (Mv w W (fun k => B ≤ k ∧ k < w1.heap.size)) ∧ Hid (Su B W g c ks L (min i ks.length))) (fun _ v7 _ => ks.length + 2 - (intOf v7).toNat)
  case atStart => exact ⟨0, Nat.zero_le _, rfl, rfl, HM2, by rw [Nat.zero_min]; exact HS2⟩
  case round =>
    clear HM2 HS2
    obtain ⟨i, hil, rfl, rfl, HM, HS⟩ := hrel
    by_cases hlt : i < ks.length
    · have t1 : (i : Int) < ((ks.length + 2 : Nat) : Int) := by omega
      have t2 : ¬ (i : Int) ≥ (ks.length : Int) := by omega
      have hmin : min i ks.length = i := by omega
      rw [hmin] at HS
      obtain ⟨_, _, e, -, -, h3⟩ := HK.out _ HM.out
      simp only [Value.slice.injEq] at e
      obtain ⟨rfl, -, rfl⟩ := e
      obtain ⟨gb, ob, vf, rfl, -, d2, d3⟩ := h3 i hlt
      clear h3
      obtain ⟨c2, hlf⟩ := HS.out.at HL.out hlt
      have hfl := (HZ.out.2 _ (List.getElem_mem hlt)).1
      have hlb := HBL.out _ (List.getElem_mem (l := L) (n := i) (by rw [HL.out]; exact hlt))
      have HT : Hid (∀ W2, Mv wr W2 (fun k => k = blk (L[i]'(by rw [HL.out]; exact hlt))) → (∃ u, W2.cell? ⟨g, i * 2, none⟩ = some u) ∧ (∃ u, W2.cell? ⟨g, i * 2 + 1, none⟩ = some u) ∧ (∀ j, W2.frozen? ⟨g, j, none⟩ = false) ∧ (∃ o, W2.heap[g]? = some o) ∧ Su B ((W2.setCell ⟨g, i * 2, none⟩ (.string ovr)).setCell ⟨g, i * 2 + 1, none⟩ (.slice none 0 0)) g c ks L (i + 1)) := fun W2 hm => HS.out.turn HL.out HR.out hlt hm
      obtain ⟨-, gi, ci, e2, hrow⟩ := hlf
      have hbi : blk (L[i]'(by rw [HL.out]; exact hlt)) = gi := by unfold blk; rw [e2]; rfl
      rw [hbi] at HT hlb
      have hkc : kcV (L[i]'(by rw [HL.out]; exact hlt)) = .slice (some ⟨gi, 0, none⟩) ks[i].2.length ci := by unfold kcV; rw [e2]
      rw [hkc] at c2
      clear hkc hbi e2
      generalize ks[i].2 = fs at *
      obtain ⟨af, cf, rfl, -⟩ := d3
      have hcap := own_cap hrow
      have k1 : wr.cell? ⟨gi, fs.length, none⟩ = some (.string bh) := by
        rw [hrow.cellAt fs.length (by omega), sz_at _ _ (by simp), List.getElem_append_right (Nat.le_refl _)]
        simp
      have k2 : wr.cell? ⟨gi, fs.length + 1, none⟩ = some (.string bh) := by
        rw [hrow.cellAt (fs.length + 1) (by omega), sz_at _ _ (by simp), List.getElem_append_right (by omega)]
        simp
      have tf : IntKind.i64.wrap ((fs.length : Int) + 2) = ((fs.length + 2 : Nat) : Int) := by rw [IntKind.wrap_i64]; omega
      have tf1 : IntKind.i64.wrap ((fs.length : Int) + 1) = ((fs.length + 1 : Nat) : Int) := by rw [IntKind.wrap_i64]; omega
      have t3 : ¬ (ci : Int) < ((fs.length + 2 : Nat) : Int) := by omega
      have t4 : ((fs.length + 2 : Nat) : Int) ≤ (ci : Int) := by omega
      have HROW := hide hrow
      have HLB := hide hlb
      clear hrow hlb HS
      have te := eq_bh
      have K1 := hide k1
      have K2 := hide k2
      have C2 := hide c2
      have D2 := hide d2
      go_upto_region 8 with fail
      go_quiet (fail)
      go_upto_region 10 with fail
      go_quiet (fail)
      go_wp2_with fail
      clear k1 k2 c2 d2 te K1 K2 C2 D2
      go_loopw [9] (fun v9 W => ∃ (k : Nat) (xs : List Value), k ≤ fs.length + 2 ∧ v9 = .int .i64 (k : Int) ∧ Hid (Mv wr W (fun q => q = gi)) ∧ Hid (W.ownsRow B 9 1 (.slice (some ⟨gi, 0, none⟩) (fs.length + 2) ci) (fs.length + 2) xs)) (fun v9 _ => fs.length + 2 - (intOf v9).toNat)
      case atStart => exact ⟨0, _, Nat.zero_le _, rfl, (Mv.refl _ _).drewN _, own_later HROW.out (bdN _ _)⟩
      case round =>
        obtain ⟨k, xs, hk, rfl, HM2, HR2⟩ := hrel
        by_cases hk2 : k < fs.length + 2
        · have u1 : (k : Int) < ((fs.length + 2 : Nat) : Int) := by omega
          have hst := HR2.out.stored k (.string ovr)
          obtain ⟨u, hu⟩ : ∃ u, xs[k]? = some u := ⟨_, List.getElem?_eq_getElem (by have := HR2.out.1; omega)⟩
          have hcell := HR2.out.cellAt k (by omega)
          rw [hu] at hcell
          have hfz := HR2.out.frozenAt k
          have HST := hide hst.1
          clear hst hu
          go_wp2_with fail
          go_roundw
          case rel => exact ⟨k + 1, _, by omega, by go_num, HM2.out.set (g := gi) rfl _ _, HST⟩
          case measure => simp [intOf]; omega
        · have u1 : ¬ (k : Int) < ((fs.length + 2 : Nat) : Int) := by omega
          obtain ⟨⟨z1, y1⟩, ⟨z2, y2⟩, y3, ⟨ob2, y4⟩, y5⟩ := HT.out _ HM2.out
          have f1 := y3 (i * 2)
          have f2 := y3 (i * 2 + 1)
          have HSU := hide y5
          clear y3 y5
          go_wp2_with fail
          go_roundw
          case rel => exact ⟨i + 1, by omega, rfl, by go_num, ((HM.out.trans HM2.out (fun k _ e => by rw [e]; exact HLB.out)).set (g := g) HG.out _ _).set (g := g) HG.out _ _, by rw [show min (i + 1) ks.length = i + 1 by omega]; exact HSU⟩
          case measure => simp [intOf]; omega
    · by_cases hlt2 : i < ks.length + 2
      · have t1 : (i : Int) < ((ks.length + 2 : Nat) : Int) := by omega
        have t2 : (i : Int) ≥ (ks.length : Int) := by omega
        have k1 := HS.out.behind i (by omega)
        have te := eq_bh
        have hmin : min i ks.length = ks.length := by omega
        have hmin2 : min (i + 1) ks.length = ks.length := by omega
        rw [hmin] at HS
        go_wp2_with fail
        go_roundw
        case rel => exact ⟨i + 1, by omega, rfl, by go_num, HM, by rw [hmin2]; exact HS⟩
        case measure => simp [intOf]; omega
      · have t1 : ¬ (i : Int) < ((ks.length + 2 : Nat) : Int) := by omega
        go_wp2_with fail
        go_ret
        exact ⟨rfl, HM.out⟩
end Go.Proofs.YtafmiolehlagkaaGreat

/-
  World: append of texts that are read.
-/
namespace Go.Proofs.YtafmiolehlagkaaGreat
open Go.RowKit
set_option maxRecDepth 100000
theorem run_append_none {P : Program} {w : World} (base : Nat) (t ty e : TypeId) (i : TypeInfo) (size : Nat) (ht : P.underlying t = some (.slice e)) (hi : P.info? e = some i)
    (v : Value) (n : Nat) (xs : List Value) (hown : w.ownsRow base e size v n xs) (c : Nat) :
    (Builtin.append_ #[t, t] ty #[v, .slice none 0 c]).run P w = .ok v w := by
  rcases hown.2 with ⟨rfl, rfl⟩ | ⟨g, cap, cur, rfl, _, _, hnc, _⟩
  · simp [Builtin.append_, run_underlying ht, sizeOf, typeInfo, hi, Builtin.lenOf, Builtin.firstCells]
  · simp [Builtin.append_, run_underlying ht, sizeOf, typeInfo, hi, Builtin.lenOf, Builtin.firstCells, hnc, storeCells]
/-- 'append(v, l...)' of texts, v the call's own. -/
theorem run_append_texts {w : World} (base : Nat) (ty : TypeId) (v : Value) (n : Nat) (xs : List Value) (hown : w.ownsRow base 9 1 v n xs) (vx : Value) (l : List ByteArray) (hsr : Sr w vx l) (hb : (n + l.length) * 16 ≤ 140737488355328) (hbase : base ≤ w.heap.size) :
    ∃ v' w', (Builtin.append_ #[41, 41] ty #[v, vx]).run Tryz.prog w = .ok v' w' ∧ w'.ownsRow base 9 1 v' (n + l.length) (xs ++ sz l) ∧ w.grownBy w' v.ownBlock ∧ (v'.ownBlock = v.ownBlock ∨ v'.ownBlock = some w.heap.size) := by
  obtain ⟨i0, hi, hz0, hz1, hz2⟩ := info_parts info9
  obtain ⟨ao, c, rfl, h1, h2, h3⟩ := hsr
  cases ao with
  | none =>
    obtain rfl : l = [] := by
      cases l with
      | nil => rfl
      | cons x t =>
        obtain ⟨g, o, e, -⟩ := h3 0 (by simp)
        cases e
    refine ⟨v, w, run_append_none base 41 ty 9 i0 1 Tryz.underlying41 hi v n xs hown c, ?_, World.grownBy.refl _ _, .inl rfl⟩
    simpa [sz] using hown
  | some ad =>
    obtain ⟨v', w', hr, a2, a3, -, a5⟩ := run_append_own_at (P := Tryz.prog) w base 41 ty 9 i0 (.string ⟨#[]⟩) 1 16 Tryz.underlying41 hi hz0 hz1 hz2 rfl (by decide) v n xs hown ad l.length c (sz l) (by rw [sz_len]; omega) (fun j u hj => by
      have hj2 : j < l.length := by
        have := (List.getElem?_eq_some_iff.1 hj).1
        rwa [sz_len] at this
      rw [sz_at l j hj2] at hj
      obtain ⟨g', o', e3, z4⟩ := h3 j hj2
      obtain rfl := Option.some.inj e3
      rw [add_at, ← Option.some.inj hj]
      exact z4) (sz_one l) (by unfold maxLen; omega) hb hbase
    exact ⟨v', w', hr, a2, a3, a5⟩
theorem wpList_append_texts {w : World} {ops : Array Oper} {rest : List Oper} {o : Oper} {a : Act} {Q : Exit → Act → World → Prop} (hgd : o.guard = none) (s x : Operand)
    (ho : o.op = .call { callee := .builtin .append, args := #[s, x], argTypes := #[41, 41] })
    (base : Nat) (v : Value) (n : Nat) (xs : List Value) (hs : a.eval s = v) (hown : w.ownsRow base 9 1 v n xs) (vx : Value) (l : List ByteArray) (hx : a.eval x = vx) (hsr : Sr w vx l) (hb : (n + l.length) * 16 ≤ 140737488355328) (hbase : base ≤ w.heap.size)
    (h : ∀ v' w', w'.ownsRow base 9 1 v' (n + l.length) (xs ++ sz l) → w.grownBy w' v.ownBlock → (v'.ownBlock = v.ownBlock ∨ v'.ownBlock = some w.heap.size) → wpList Tryz.prog ops Q rest (a.put o.dst v') w') :
    wpList Tryz.prog ops Q (o :: rest) a w := by
  refine wpList_plain hgd fun K hK => ?_
  obtain ⟨v', w', hr, h2, h3, h5⟩ := run_append_texts base o.type v n xs hown vx l hsr hb hbase
  unfold Oper.wp execOp
  simp only [ho, resolve, invoke, builtin, Sem.run_bind, Sem.run_pure, Result.andThen_ok, List.map_toArray, List.map_cons, List.map_nil, hs, hx, hr]
  exact hK _ _ (h v' w' h2 h3 h5)
end Go.Proofs.YtafmiolehlagkaaGreat

/-
  World: kinds lent (the law's lentKinds).
-/
namespace Go.Proofs.YtafmiolehlagkaaGreat
open Go.RowKit
set_option maxRecDepth 100000
theorem sr_two {w : World} : Sr (w.alloc (.cells #[.string bh, .string bh] 9)) (.slice (some ⟨w.heap.size, 0, none⟩) 2 2) [bh, bh] :=
  sr_of (l := [bh, bh]) (heap_alloc_new w _) (by decide) (fun j hj => by match j, hj with | 0, _ => rfl | 1, _ => rfl)
theorem Lw.at_alloc {B : Nat} {W : World} {v : Value} {ks : List Kind} {L : List Kc} {o : Obj} (h : Lw B W v ks L) : Lw B (W.alloc o) v ks L := ⟨own_later h.1 (below_alloc _ _), h.2.1, fun j h1 h2 => (h.2.2.1 j h1 h2).later (below_alloc _ _), h.2.2.2⟩
theorem lf_made {B : Nat} {w W : World} {k : Kind} {f : Value} (hk : W.ownsRow w.heap.size 9 1 f (k.2.length + 2) (sz k.2 ++ sz [bh, bh])) (hw : B ≤ w.heap.size) : ∃ g c, f = .slice (some ⟨g, 0, none⟩) (k.2.length + 2) c ∧ k.2.length + 2 ≤ c ∧ w.heap.size ≤ g ∧ Lf B W k (k.1, some ⟨g, 0, none⟩, k.2.length, c) := by
  obtain ⟨g, c, rfl, h1, h2⟩ := own_form hk (by omega)
  refine ⟨g, c, rfl, h1, (hk.lt g rfl).1, rfl, g, c, rfl, own_lower ?_ hw⟩
  rw [sz_append]
  exact hk
set_option maxHeartbeats 8000000 in
theorem lent_kinds {w : World} {v : Value} {ks : List Kind} (h : Kr w v ks) (hz : Sz ks) : Calls Tryz.prog 36 #[v] w fun e w' => ∃ v', e = .returned v' ∧ Lk w.heap.size w' v' ks ∧ Below w.heap.size w w' := by
  obtain ⟨i0, hi0, hz0, hz1, hz2⟩ := info_parts infoK
  have HK := hide h
  have HZ := hide hz
  have hz := hz.1
  obtain ⟨ao, c, rfl, h1, h2, h3⟩ := h
  have hbig : c ≤ 9223372036854775807 := by unfold maxLen at h2; omega
  clear h3 h2
  go_enter Tryz.func36, Tryz.ntmps36
  go_wp2_with fail
  go_loopw [3, 4] (fun v3 v4 W => ∃ L : List Kc, L.length ≤ ks.length ∧ v4 = .int .i64 (L.length : Int) ∧ Hid (Lw w.heap.size W v3 ks L) ∧ Hid (Below w.heap.size w W) ∧ ∃ a3 c3, v3 = .slice a3 L.length c3) (fun _ v4 _ => ks.length - (intOf v4).toNat)
  case atStart => exact ⟨[], Nat.zero_le _, rfl, Lw.start _ _ _, Below.refl _ _, _, _, rfl⟩
  case round =>
    obtain ⟨L, hil, rfl, HL, HB, a3, c3, rfl⟩ := hrel
    by_cases hlt : L.length < ks.length
    · have t1 : (L.length : Int) < (ks.length : Int) := by omega
      obtain ⟨ao', c', e', -, -, h3⟩ := HK.out.later HB.out
      simp only [Value.slice.injEq, true_and] at e'
      obtain ⟨rfl, rfl⟩ := e'
      obtain ⟨g, o, vf, rfl, e1, e2, e3⟩ := h3 L.length hlt
      have E1 := hide e1
      have E2 := hide e2
      have E3 := hide e3
      have hfl := (HZ.out.2 _ (List.getElem_mem hlt)).1
      have HP : Hid (∀ (W1 W2 : World) (v' : Value) (p : Kc), Below wr.heap.size wr W1 → Lf w.heap.size W1 ks[L.length] p → wr.heap.size ≤ blk p → W2.ownsRow w.heap.size 119 2 v' (L.length + 1) (kz L ++ [.string p.1, kcV p]) → W1.grownBy W2 (Value.slice a3 L.length c3).ownBlock → Lw w.heap.size W2 v' ks (L ++ [p])) := fun W1 W2 v' p q1 q2 q3 q4 q5 => HL.out.push hlt q1 q2 q3 q4 q5
      generalize ks[L.length] = kd at *
      obtain ⟨nm, fs⟩ := kd
      obtain ⟨af, cf, rfl, -⟩ := e3
      dsimp only at e1 e2 E3 hfl E1 E2
      have hsz := HB.out.size
      clear h3
      go_wp2_with (at_builtin; refine wpList_append_texts rfl _ _ rfl wr.heap.size (.slice none 0 0) 0 [] rfl (World.ownsRow_nil _ _ _ _) (.slice af fs.length cf) fs rfl E3.out (by omega) (Nat.le_refl _) ?_)
      intro f1 w1 o1 g1 _
      try simp only [Nat.zero_add, List.nil_append] at o1
      have B1 : Hid (Below wr.heap.size wr w1) := (Below.refl _ _).grown g1 (Nat.le_refl _) (fun k e => by cases e)
      obtain ⟨a5, c5, rfl⟩ := own_len o1
      have O1 := hide o1
      clear o1 g1
      have hs1 := B1.out.size
      go_wp2_with (at_builtin; refine wpList_append_texts rfl _ _ rfl wr.heap.size (.slice a5 fs.length c5) fs.length (sz fs) rfl (O1.out.alloc _) (.slice (some ⟨w1.heap.size, 0, none⟩) 2 2) [bh, bh] rfl sr_two (by simp; omega) (by simp; omega) ?_)
      intro f2 w2 o2 g2 _
      have B2 : Hid (Below wr.heap.size wr w2) := (below_on B1.out (below_alloc _ _)).grown g2 (by simp; omega) (fun k e => (O1.out.lt k e).1)
      obtain ⟨gf, cf2, rfl, q1, q2, HF⟩ := lf_made (B := w.heap.size) (k := (nm, fs)) o2 hsz
      have q1' : fs.length + 2 ≤ cf2 := q1
      have hcap := own_cap o2
      have HF2 := hide HF
      clear o2 g2 HF e1 e2
      have hs2 := B2.out.size
      have e1 := (B2.out.cell (p := ⟨g, o + L.length * 2, none⟩) (World.block_lt_of_cell? _ _ E1.out)).trans E1.out
      have e2 := (B2.out.cell (p := ⟨g, o + L.length * 2 + 1, none⟩) (World.block_lt_of_cell? _ _ E2.out)).trans E2.out
      have t5 : (fs.length : Int) ≤ (cf2 : Int) := by omega
      have HO : Hid (w2.ownsRow w.heap.size 119 2 (.slice a3 L.length c3) L.length (kz L)) := own_later HL.out.1 B2.out
      have KG : Hid (g < w.heap.size) := by
        obtain ⟨_, _, e, -, -, h4⟩ := HK.out
        simp only [Value.slice.injEq] at e
        obtain ⟨rfl, -, rfl⟩ := e
        obtain ⟨g', o', vf', e', z1, -, -⟩ := h4 L.length hlt
        simp only [Option.some.injEq, Addr.mk.injEq, and_true] at e'
        obtain ⟨rfl, rfl⟩ := e'
        exact World.block_lt_of_cell? _ _ z1
      go_upto_region 8 with fail
      refine wp_region_noPanic ?_
      refine wp_region_late (J := fun i => i != 99) (S := fun W => W.cell? ⟨g, o + L.length * 2, none⟩ = some (.string nm) ∧ W.cell? ⟨g, o + L.length * 2 + 1, none⟩ = some (.slice af fs.length cf)) (by kernel_rfl) ⟨e1, e2⟩ (fun hHeld => ?_)
      refine' wpAnyJ_takeW (i := 0) (oi := { dst := some 22, op := Op.move (Operand.tmp 3), type := 22, pos := "book.go:248", after := #[], guard := none }) (v := _) rfl (by kernel_rfl) (by kernel_rfl) (by kernel_rfl) (fun _ _ _ h => h) (Or.inl ⟨by rfl, ?hyA1⟩) ?reA1
      case hyA1 => (intro W hSw; (try dsimp only at hSw); go_simp; try with_reducible rfl)
      try simp only [Act.put, List.setIfInBounds_toArray, List.set_cons_zero, List.set_cons_succ]
      refine' wpAnyJ_takeW (i := 1) (oi := { dst := some 23, op := Op.move (Operand.tmp 0), type := 22, pos := "book.go:248", after := #[], guard := none }) (v := _) rfl (by kernel_rfl) (by kernel_rfl) (by kernel_rfl) (fun _ _ _ h => h) (Or.inl ⟨by rfl, ?hyA2⟩) ?reA2
      case hyA2 => (intro W hSw; (try dsimp only at hSw); go_simp; try with_reducible rfl)
      try simp only [Act.put, List.setIfInBounds_toArray, List.set_cons_zero, List.set_cons_succ]
      refine' wpAnyJ_takeW (i := 2) (oi := { dst := some 24, op := Op.move (Operand.tmp 4), type := 3, pos := "book.go:248", after := #[], guard := none }) (v := _) rfl (by kernel_rfl) (by kernel_rfl) (by kernel_rfl) (fun _ _ _ h => h) (Or.inl ⟨by rfl, ?hyA3⟩) ?reA3
      case hyA3 => (intro W hSw; (try dsimp only at hSw); go_simp; try with_reducible rfl)
      try simp only [Act.put, List.setIfInBounds_toArray, List.set_cons_zero, List.set_cons_succ]
      refine' wpAnyJ_takeW (i := 3) (oi := { dst := some 25, op := Op.indexAddr 22 (Operand.tmp 23) (Operand.tmp 24), type := 0, pos := "book.go:248", after := #[{ on := 1, ground := Ground.data }, { on := 2, ground := Ground.data }], guard := none }) (v := _) rfl (by kernel_rfl) (by kernel_rfl) (by kernel_rfl) (fun _ _ _ h => h) (Or.inl ⟨by rfl, ?hyA4⟩) ?reA4
      case hyA4 => (intro W hSw; (try dsimp only at hSw); go_simp; try with_reducible rfl)
      try simp only [Act.put, List.setIfInBounds_toArray, List.set_cons_zero, List.set_cons_succ]
      refine' wpAnyJ_takeW (i := 4) (oi := { dst := some 26, op := Op.fieldAddr 119 (Operand.tmp 25) 0, type := 0, pos := "book.go:248", after := #[{ on := 3, ground := Ground.data }], guard := none }) (v := _) rfl (by kernel_rfl) (by kernel_rfl) (by kernel_rfl) (fun _ _ _ h => h) (Or.inl ⟨by rfl, ?hyA5⟩) ?reA5
      case hyA5 => (intro W hSw; (try dsimp only at hSw); go_simp; try with_reducible rfl)
      try simp only [Act.put, List.setIfInBounds_toArray, List.set_cons_zero, List.set_cons_succ]
      refine' wpAnyJ_take (i := 5) (oi := { dst := some 27, op := Op.load 9 (Operand.tmp 26), type := 9, pos := "book.go:248", after := #[{ on := 4, ground := Ground.data }], guard := none }) (v := _) rfl (by kernel_rfl) (by kernel_rfl) (by kernel_rfl) (by kernel_rfl) (fun _ _ _ h => h) (Or.inl ⟨by rfl, ?hyA6⟩) (by assumption) ?reA6
      case hyA6 => (intro W hSw; (try dsimp only at hSw); go_simp; try with_reducible rfl)
      try simp only [Act.put, List.setIfInBounds_toArray, List.set_cons_zero, List.set_cons_succ]
      refine' wpAnyJ_takeW (i := 6) (oi := { dst := some 28, op := Op.move (Operand.tmp 5), type := 41, pos := "book.go:248", after := #[], guard := none }) (v := _) rfl (by kernel_rfl) (by kernel_rfl) (by kernel_rfl) (fun _ _ _ h => h) (Or.inl ⟨by rfl, ?hyA7⟩) ?reA7
      case hyA7 => (intro W hSw; (try dsimp only at hSw); go_simp; try with_reducible rfl)
      try simp only [Act.put, List.setIfInBounds_toArray, List.set_cons_zero, List.set_cons_succ]
      refine' wpAnyJ_takeW (i := 7) (oi := { dst := some 29, op := Op.move (Operand.tmp 0), type := 22, pos := "book.go:248", after := #[], guard := none }) (v := _) rfl (by kernel_rfl) (by kernel_rfl) (by kernel_rfl) (fun _ _ _ h => h) (Or.inl ⟨by rfl, ?hyA8⟩) ?reA8
      case hyA8 => (intro W hSw; (try dsimp only at hSw); go_simp; try with_reducible rfl)
      try simp only [Act.put, List.setIfInBounds_toArray, List.set_cons_zero, List.set_cons_succ]
      refine' wpAnyJ_takeW (i := 8) (oi := { dst := some 30, op := Op.move (Operand.tmp 4), type := 3, pos := "book.go:248", after := #[], guard := none }) (v := _) rfl (by kernel_rfl) (by kernel_rfl) (by kernel_rfl) (fun _ _ _ h => h) (Or.inl ⟨by rfl, ?hyA9⟩) ?reA9
      case hyA9 => (intro W hSw; (try dsimp only at hSw); go_simp; try with_reducible rfl)
      try simp only [Act.put, List.setIfInBounds_toArray, List.set_cons_zero, List.set_cons_succ]
      refine' wpAnyJ_takeW (i := 9) (oi := { dst := some 31, op := Op.indexAddr 22 (Operand.tmp 29) (Operand.tmp 30), type := 0, pos := "book.go:248", after := #[{ on := 7, ground := Ground.data }, { on := 8, ground := Ground.data }], guard := none }) (v := _) rfl (by kernel_rfl) (by kernel_rfl) (by kernel_rfl) (fun _ _ _ h => h) (Or.inl ⟨by rfl, ?hyA10⟩) ?reA10
      case hyA10 => (intro W hSw; (try dsimp only at hSw); go_simp; try with_reducible rfl)
      try simp only [Act.put, List.setIfInBounds_toArray, List.set_cons_zero, List.set_cons_succ]
      refine' wpAnyJ_takeW (i := 10) (oi := { dst := some 32, op := Op.fieldAddr 119 (Operand.tmp 31) 1, type := 0, pos := "book.go:248", after := #[{ on := 9, ground := Ground.data }], guard := none }) (v := _) rfl (by kernel_rfl) (by kernel_rfl) (by kernel_rfl) (fun _ _ _ h => h) (Or.inl ⟨by rfl, ?hyA11⟩) ?reA11
      case hyA11 => (intro W hSw; (try dsimp only at hSw); go_simp; try with_reducible rfl)
      try simp only [Act.put, List.setIfInBounds_toArray, List.set_cons_zero, List.set_cons_succ]
      refine' wpAnyJ_take (i := 11) (oi := { dst := some 33, op := Op.load 41 (Operand.tmp 32), type := 41, pos := "book.go:248", after := #[{ on := 10, ground := Ground.data }], guard := none }) (v := _) rfl (by kernel_rfl) (by kernel_rfl) (by kernel_rfl) (by kernel_rfl) (fun _ _ _ h => h) (Or.inl ⟨by rfl, ?hyA12⟩) (by assumption) ?reA12
      case hyA12 => (intro W hSw; (try dsimp only at hSw); go_simp; try with_reducible rfl)
      try simp only [Act.put, List.setIfInBounds_toArray, List.set_cons_zero, List.set_cons_succ]
      refine' wpAnyJ_takeW (i := 12) (oi := { dst := some 34, op := Op.call { callee := Callee.builtin Builtin.len, args := #[Operand.tmp 33], argTypes := #[41] }, type := 3, pos := "book.go:248", after := #[{ on := 11, ground := Ground.data }], guard := none }) (v := _) rfl (by kernel_rfl) (by kernel_rfl) (by kernel_rfl) (fun _ _ _ h => h) (Or.inl ⟨by rfl, ?hyA13⟩) ?reA13
      case hyA13 => (intro W hSw; (try dsimp only at hSw); go_simp; try with_reducible rfl)
      try simp only [Act.put, List.setIfInBounds_toArray, List.set_cons_zero, List.set_cons_succ]
      refine' wpAnyJ_takeW (i := 13) (oi := { dst := some 35, op := Op.slice 41 (Operand.tmp 28) none (some (Operand.tmp 34)) none, type := 41, pos := "book.go:248", after := #[{ on := 6, ground := Ground.data }, { on := 12, ground := Ground.data }], guard := none }) (v := _) rfl (by kernel_rfl) (by kernel_rfl) (by kernel_rfl) (fun _ _ _ h => h) (Or.inl ⟨by rfl, ?hyA14⟩) ?reA14
      case hyA14 => (intro W hSw; (try dsimp only at hSw); go_simp; try with_reducible rfl)
      try simp only [Act.put, List.setIfInBounds_toArray, List.set_cons_zero, List.set_cons_succ]
      refine' wpAnyJ_takeW (i := 14) (oi := { dst := some 36, op := Op.build 119 #[(0, Operand.tmp 27), (1, Operand.tmp 35)], type := 119, pos := "book.go:248", after := #[{ on := 5, ground := Ground.data }, { on := 13, ground := Ground.data }], guard := none }) (v := _) rfl (by kernel_rfl) (by kernel_rfl) (by kernel_rfl) (fun _ _ _ h => h) (Or.inl ⟨by rfl, ?hyA15⟩) ?reA15
      case hyA15 => (intro W hSw; (try dsimp only at hSw); go_simp; try with_reducible rfl)
      try simp only [Act.put, List.setIfInBounds_toArray, List.set_cons_zero, List.set_cons_succ]
      refine wpAnyJ_ready (rs := [15]) (by kernel_rfl) (by simp) ?_
      refine AllReadyJ.cons (o := { dst := some 37, op := Op.buildSlice 22 1 #[(0, Operand.tmp 36)], type := 22, pos := "book.go:248", after := #[{ on := 14, ground := Ground.data }], guard := none }) rfl (fun K hK => ?_) AllReadyJ.nil
      go_simp
      refine hK.out _ _ (fun _ _ => ⟨((below_on (below_drew w2) (below_alloc _ _)).cell (p := ⟨g, o + L.length * 2, none⟩) (World.block_lt_of_cell? _ _ e1)).trans e1, ((below_on (below_drew w2) (below_alloc _ _)).cell (p := ⟨g, o + L.length * 2 + 1, none⟩) (World.block_lt_of_cell? _ _ e2)).trans e2⟩) ?_
      clear hK K
      try simp only [Act.put, List.setIfInBounds_toArray, List.set_cons_zero, List.set_cons_succ]
      refine wpAnyJ_ready (rs := [16]) (by kernel_rfl) (by simp) ?_
      refine AllReadyJ.cons (o := { dst := some 38, op := Op.call { callee := Callee.builtin Builtin.append, args := #[Operand.tmp 22, Operand.tmp 37], argTypes := #[22, 22] }, type := 22, pos := "book.go:248", after := #[{ on := 0, ground := Ground.data }, { on := 15, ground := Ground.data }], guard := none }) rfl (fun K hK => ?_) AllReadyJ.nil
      have HO9 : Hid ((w2.drew.alloc (.cells #[.string nm, .slice (some ⟨gf, 0, none⟩) fs.length cf2] 119)).ownsRow w.heap.size 119 2 (.slice a3 L.length c3) L.length (kz L)) := own_later HO.out (below_on (below_drew _) (below_alloc _ _))
      refine step_append_lies _ rfl (.tmp 22) (.tmp 37) 22 rfl w.heap.size 119 i0 (.agg #[.string ⟨#[]⟩, .slice none 0 0]) 2 40 Tryz.underlying22 hi0 hz0 hz1 hz2 rfl (by decide) (.slice a3 L.length c3) L.length (kz L) (by simp [Act.eval]) HO9.out ⟨w2.heap.size, 0, none⟩ 1 1 [.string nm, .slice (some ⟨gf, 0, none⟩) fs.length cf2] (by simp [Act.eval]) rfl (by intro j u hj; match j, hj with | 0, hj => simp at hj; subst hj; simp [Addr.add] | 1, hj => simp at hj; subst hj; simp [Addr.add]) (by intro u hu; simp at hu; rcases hu with rfl | rfl <;> rfl) (by omega) (by unfold maxLen; omega) (by omega) (by simp; omega) _ rfl ?_
      intro g9 c9 w9 ho9 hg9 ha9 _
      have HN : Hid (Lw w.heap.size w9 (.slice (some ⟨g9, 0, none⟩) (L.length + 1) c9) ks (L ++ [(nm, some ⟨gf, 0, none⟩, fs.length, cf2)])) := HP.out _ w9 _ (nm, some ⟨gf, 0, none⟩, fs.length, cf2) (below_on B2.out (below_on (below_drew _) (below_alloc _ _))) (HF2.out.later (below_on (below_drew _) (below_alloc _ _))) q2 ho9 hg9
      have HB9 : Hid (Below w.heap.size w w9) := (below_on (below_on HB.out B2.out) (below_on (below_drew _) (below_alloc _ _))).grown hg9 (by simp; omega) (fun k e => (HO.out.lt k e).1)
      have z1 : w9.cell? ⟨g, o + L.length * 2, none⟩ = some (.string nm) ∧ w9.cell? ⟨g, o + L.length * 2 + 1, none⟩ = some (.slice af fs.length cf) := ⟨(HB9.out.cell (p := ⟨g, o + L.length * 2, none⟩) KG.out).trans (HB.out.cell (p := ⟨g, o + L.length * 2, none⟩) KG.out ▸ E1.out), (HB9.out.cell (p := ⟨g, o + L.length * 2 + 1, none⟩) KG.out).trans (HB.out.cell (p := ⟨g, o + L.length * 2 + 1, none⟩) KG.out ▸ E2.out)⟩
      clear ho9 hg9 ha9 HO9
      refine hK.out _ _ (fun _ _ => z1) ?_
      clear hK K z1
      try simp only [Act.put, List.setIfInBounds_toArray, List.set_cons_zero, List.set_cons_succ]
      refine' wpAnyJ_takeW (i := 17) (oi := { dst := some 3, op := Op.assign (Operand.tmp 38), type := 22, pos := "book.go:248", after := #[{ on := 16, ground := Ground.data }, { on := 16, ground := Ground.chain }, { on := 0, ground := Ground.phase }, { on := 1, ground := Ground.phase }, { on := 2, ground := Ground.phase }, { on := 3, ground := Ground.phase }, { on := 4, ground := Ground.phase }, { on := 5, ground := Ground.phase }, { on := 6, ground := Ground.phase }, { on := 7, ground := Ground.phase }, { on := 8, ground := Ground.phase }, { on := 9, ground := Ground.phase }, { on := 10, ground := Ground.phase }, { on := 11, ground := Ground.phase }, { on := 12, ground := Ground.phase }, { on := 13, ground := Ground.phase }, { on := 14, ground := Ground.phase }, { on := 15, ground := Ground.phase }, { on := 16, ground := Ground.phase }], guard := none }) (v := _) rfl (by kernel_rfl) (by kernel_rfl) (by kernel_rfl) (fun _ _ _ h => h) (Or.inl ⟨by rfl, ?hyA16⟩) ?reA16
      case hyA16 => (intro W hSw; (try dsimp only at hSw); go_simp; try with_reducible rfl)
      try simp only [Act.put, List.setIfInBounds_toArray, List.set_cons_zero, List.set_cons_succ]
      refine wpAnyJ_done (by kernel_rfl) ?_ _
      refine NoPanic.normal ?_
      go_wp2_with fail
      go_roundw
      case rel => exact ⟨L ++ [(nm, some ⟨gf, 0, none⟩, fs.length, cf2)], by simp; omega, by first | (simp; done) | (simp; go_num), HN, HB9, some ⟨g9, 0, none⟩, c9, by simp⟩
      case measure => simp [intOf]; omega
    · have t1 : ¬ (L.length : Int) < (ks.length : Int) := by omega
      have hl : L.length = ks.length := by omega
      have HO : Hid (wr.ownsRow w.heap.size 119 2 (.slice a3 L.length c3) L.length (kz L)) := HL.out.1
      have HD : Hid (∀ (ob : Obj) (g c : Nat) (W2 : World), W2.ownsRow w.heap.size 119 2 (.slice (some ⟨g, 0, none⟩) (ks.length + 2) c) (ks.length + 2) (kz L ++ [.string bh, .slice none 0 0, .string bh, .slice none 0 0]) → (wr.alloc ob).grownBy W2 (Value.slice a3 L.length c3).ownBlock → Lk w.heap.size W2 (.slice (some ⟨g, 0, none⟩) ks.length c) ks ∧ Below w.heap.size w W2) := fun ob g c W2 k1 k2 => ⟨(Lw.at_alloc HL.out).done hl k1 k2, (below_on HB.out (below_alloc _ _)).grown k2 (by have := HB.out.size; simp; omega) (fun k e => (HL.out.1.lt k e).1)⟩
      have hsz := HB.out.size
      clear HL HK
      go_wp2_with (at_builtin; refine wpList_append_own_at _ rfl _ _ 22 rfl w.heap.size 119 i0 (.agg #[.string ⟨#[]⟩, .slice none 0 0]) 2 40 Tryz.underlying22 hi0 hz0 hz1 hz2 rfl (by decide) _ L.length (kz L) rfl (HO.out.alloc _) ⟨wr.heap.size, 0, none⟩ 2 2 [.string bh, .slice none 0 0, .string bh, .slice none 0 0] rfl rfl ?c1 ?c2 (by unfold maxLen; omega) (by omega) ?c5 ?_)
      case c1 => intro j u hj; match j, hj with | 0, hj => simp at hj; subst hj; simp [bh] | 1, hj => simp at hj; subst hj; simp | 2, hj => simp at hj; subst hj; simp [bh] | 3, hj => simp at hj; subst hj; simp
      case c2 => repeat' (first | exact rfl | refine ⟨?_, ?_⟩)
      case c5 => first | omega | (simp; omega)
      intro v9 w9 ho9 hg9 _ _
      obtain ⟨g9, c9, rfl, k1, k2⟩ := own_form ho9 (by omega)
      try rw [hl] at ho9
      try rw [← hl] at hg9
      have HE := hide (HD.out _ g9 c9 w9 ho9 hg9)
      clear ho9 hg9 HD HO
      have t6 : (ks.length : Int) ≤ (c9 : Int) := by omega
      go_wp2_with fail
      go_ret
      exact ⟨_, rfl, HE.out.1, HE.out.2⟩
end Go.Proofs.YtafmiolehlagkaaGreat

/-
  World: kinds in new memory, by the document; its New.
-/
namespace Go.Proofs.YtafmiolehlagkaaGreat
open Go.RowKit
set_option maxRecDepth 100000
theorem step_append_texts {w : World} {ops : Array Oper} {o : Oper} {a : Act} {K : Act → World → Prop} {Q : Exit → Act → World → Prop} {E : Prop} (hgd : o.guard = none) (s x : Operand)
    (ho : o.op = .call { callee := .builtin .append, args := #[s, x], argTypes := #[41, 41] })
    (base : Nat) (v : Value) (n : Nat) (xs : List Value) (hs : a.eval s = v) (hown : w.ownsRow base 9 1 v n xs) (vx : Value) (l : List ByteArray) (hx : a.eval x = vx) (hsr : Sr w vx l) (hb : (n + l.length) * 16 ≤ 140737488355328) (hbase : base ≤ w.heap.size)
    (h : ∀ v' w', w'.ownsRow base 9 1 v' (n + l.length) (xs ++ sz l) → w.grownBy w' v.ownBlock → K (a.put o.dst v') w') :
    if Region.wanted o (yielded ops a.tmps) = true then Oper.wp Tryz.prog o a w K Q else E := by
  have hw : Region.wanted o (yielded ops a.tmps) = true := by simp [Region.wanted, hgd]
  rw [if_pos hw]
  obtain ⟨v', w', hr, h2, h3, h5⟩ := run_append_texts base o.type v n xs hown vx l hsr hb hbase
  unfold Oper.wp execOp
  simp only [ho, resolve, invoke, builtin, Sem.run_bind, Sem.run_pure, Result.andThen_ok, List.map_toArray, List.map_cons, List.map_nil, hs, hx, hr]
  exact h v' w' h2 h3
/-- So many kinds in memory of their own. -/
def Kt (B : Nat) (W : World) (v : Value) (ks : List Kind) (L : List Kc) : Prop := W.ownsRow B 119 2 v L.length (kz L) ∧ L.length ≤ ks.length ∧ ∀ j (h1 : j < L.length) (h2 : j < ks.length), L[j].1 = ks[j].1 ∧ W.ownsRow B 9 1 (kcV L[j]) ks[j].2.length (sz ks[j].2)
theorem Kt.start (B : Nat) (W : World) (ks : List Kind) : Kt B W (.slice none 0 0) ks [] := ⟨World.ownsRow_nil _ _ _ _, Nat.zero_le _, fun j h => absurd h (by simp)⟩
theorem Kt.push {B : Nat} {W W1 W2 : World} {v v' : Value} {ks : List Kind} {L : List Kc} {p : Kc} (h : Kt B W v ks L) (hi : L.length < ks.length) (hb : Below W.heap.size W W1) (hp : p.1 = ks[L.length].1 ∧ W1.ownsRow B 9 1 (kcV p) ks[L.length].2.length (sz ks[L.length].2)) (ho : W2.ownsRow B 119 2 v' (L.length + 1) (kz L ++ [.string p.1, kcV p])) (hg : W1.grownBy W2 v.ownBlock) : Kt B W2 v' ks (L ++ [p]) := by
  obtain ⟨h1, h2, h3⟩ := h
  have h1' := own_later h1 hb
  refine ⟨?_, by simp; omega, fun j j1 j2 => ?_⟩
  · rw [List.length_append, kz_append]
    exact ho
  · by_cases c : j < L.length
    · rw [List.getElem_append_left c]
      have := own_later (h3 j c j2).2 hb
      exact ⟨(h3 j c j2).1, own_kept this hg (fun k e => own_kinds this h1' (by decide) e)⟩
    · have hj : j = L.length := by simp at j1; omega
      subst hj
      rw [List.getElem_append_right (Nat.le_refl _)]
      simp only [Nat.sub_self, List.getElem_cons_zero]
      exact ⟨hp.1, own_kept hp.2 hg (fun k e => own_kinds hp.2 h1' (by decide) e)⟩
theorem Kt.ko {B : Nat} {W : World} {v : Value} {ks : List Kind} {L : List Kc} (h : Kt B W v ks L) (hl : L.length = ks.length) : Ko B W v ks := ⟨L, by rw [← hl]; exact h.1, hl, fun i i1 i2 => h.2.2 i i1 i2⟩
set_option maxHeartbeats 8000000 in
theorem dcopied_kinds {w : World} {v : Value} {ks : List Kind} (h : Kr w v ks) (hz : Sz ks) : Calls Tryz.prog 94 #[v] w fun e w' => ∃ v', e = .returned v' ∧ Ko w.heap.size w' v' ks ∧ Below w.heap.size w w' := by
  obtain ⟨i0, hi0, hz0, hz1, hz2⟩ := info_parts infoK
  have HK := hide h
  have HZ := hide hz
  have hz := hz.1
  obtain ⟨ao, c, rfl, h1, h2, h3⟩ := h
  have hbig : c ≤ 9223372036854775807 := by unfold maxLen at h2; omega
  clear h3 h2
  go_enter Tryz.func94, Tryz.ntmps94
  go_wp2_with fail
  go_loopw [3, 4] (fun v3 v4 W => ∃ L : List Kc, L.length ≤ ks.length ∧ v4 = .int .i64 (L.length : Int) ∧ Hid (Kt w.heap.size W v3 ks L) ∧ Hid (Below w.heap.size w W) ∧ ∃ a3 c3, v3 = .slice a3 L.length c3) (fun _ v4 _ => ks.length - (intOf v4).toNat)
  case atStart => exact ⟨[], Nat.zero_le _, rfl, Kt.start _ _ _, Below.refl _ _, _, _, rfl⟩
  case round =>
    obtain ⟨L, hil, rfl, HL, HB, a3, c3, rfl⟩ := hrel
    by_cases hlt : L.length < ks.length
    · have t1 : (L.length : Int) < (ks.length : Int) := by omega
      obtain ⟨ao', c', e', -, -, h3⟩ := HK.out.later HB.out
      simp only [Value.slice.injEq, true_and] at e'
      obtain ⟨rfl, rfl⟩ := e'
      obtain ⟨g, o, vf, rfl, e1, e2, e3⟩ := h3 L.length hlt
      have hfl := (HZ.out.2 _ (List.getElem_mem hlt)).1
      have HP : Hid (∀ (W1 W2 : World) (v' : Value) (p : Kc), Below wr.heap.size wr W1 → (p.1 = ks[L.length].1 ∧ W1.ownsRow w.heap.size 9 1 (kcV p) ks[L.length].2.length (sz ks[L.length].2)) → W2.ownsRow w.heap.size 119 2 v' (L.length + 1) (kz L ++ [.string p.1, kcV p]) → W1.grownBy W2 (Value.slice a3 L.length c3).ownBlock → Kt w.heap.size W2 v' ks (L ++ [p])) := fun W1 W2 v' p q1 q2 q3 q4 => HL.out.push hlt q1 q2 q3 q4
      have HO : Hid (∀ W, Below wr.heap.size wr W → W.ownsRow w.heap.size 119 2 (.slice a3 L.length c3) L.length (kz L)) := fun W hW => own_later HL.out.1 hW
      generalize ks[L.length] = kd at *
      obtain ⟨nm, fs⟩ := kd
      dsimp only at e1 e2 e3 hfl HP
      have hsz := HB.out.size
      obtain ⟨w1, hw1⟩ : ∃ X, X = wr.alloc (.cells #[.string nm, .slice none 0 0] 119) := ⟨_, rfl⟩
      have B1 : Hid (Below wr.heap.size wr w1) := hw1 ▸ below_alloc wr _
      have hx1 : w1.heap[wr.heap.size]? = some (.cells #[.string nm, .slice none 0 0] 119 (0, 0)) := hw1 ▸ heap_alloc_new wr _
      have E2 : Hid (w1.cell? ⟨g, o + L.length * 2 + 1, none⟩ = some vf) := (B1.out.cell (p := ⟨g, o + L.length * 2 + 1, none⟩) (World.block_lt_of_cell? _ _ e2)).trans e2
      have E3 := hide (e3.later B1.out)
      have hgw : g < wr.heap.size := World.block_lt_of_cell? _ _ e2
      have hs1 : w1.heap.size = wr.heap.size + 1 := by rw [hw1]; simp
      obtain ⟨af, cf, rfl, -⟩ := e3
      go_upto_region 6 with fail
      try rw [← hw1]
      clear hw1 h3 e1 e2
      have X1 := hide hx1
      have k1 : w1.drew.cell? ⟨wr.heap.size, 1, none⟩ = some (.slice none 0 0) := (cell_of_row w1 (wr.heap.size) 1 _ 119 (0, 0) hx1).trans rfl
      have k2 : w1.drew.cell? ⟨g, o + L.length * 2 + 1, none⟩ = some (.slice af fs.length cf) := E2.out
      refine wp_region_noPanic ?_
      refine wp_region_late (J := fun i => i != 9) (S := fun W => W.cell? ⟨wr.heap.size, 1, none⟩ = some (.slice none 0 0) ∧ W.cell? ⟨g, o + L.length * 2 + 1, none⟩ = some (.slice af fs.length cf)) (by kernel_rfl) ⟨k1, k2⟩ (fun hHeld => ?_)
      refine' wpAnyJ_takeW (i := 0) (oi := { dst := some 18, op := Op.fieldAddr 119 (Operand.tmp 5) 1, type := 0, pos := "world.go:65", after := #[], guard := none }) (v := _) rfl (by kernel_rfl) (by kernel_rfl) (by kernel_rfl) (fun _ _ _ h => h) (Or.inl ⟨by rfl, ?hyA1⟩) ?reA1
      case hyA1 => (intro W hSw; (try dsimp only at hSw); go_simp; try with_reducible rfl)
      try simp only [Act.put, List.setIfInBounds_toArray, List.set_cons_zero, List.set_cons_succ]
      refine' wpAnyJ_take (i := 1) (oi := { dst := some 19, op := Op.load 41 (Operand.tmp 18), type := 41, pos := "world.go:65", after := #[{ on := 0, ground := Ground.data }], guard := none }) (v := _) rfl (by kernel_rfl) (by kernel_rfl) (by kernel_rfl) (by kernel_rfl) (fun _ _ _ h => h) (Or.inl ⟨by rfl, ?hyA2⟩) (by assumption) ?reA2
      case hyA2 => (intro W hSw; (try dsimp only at hSw); go_simp; try with_reducible rfl)
      try simp only [Act.put, List.setIfInBounds_toArray, List.set_cons_zero, List.set_cons_succ]
      refine' wpAnyJ_takeW (i := 2) (oi := { dst := some 20, op := Op.move (Operand.tmp 0), type := 22, pos := "world.go:65", after := #[], guard := none }) (v := _) rfl (by kernel_rfl) (by kernel_rfl) (by kernel_rfl) (fun _ _ _ h => h) (Or.inl ⟨by rfl, ?hyA3⟩) ?reA3
      case hyA3 => (intro W hSw; (try dsimp only at hSw); go_simp; try with_reducible rfl)
      try simp only [Act.put, List.setIfInBounds_toArray, List.set_cons_zero, List.set_cons_succ]
      refine' wpAnyJ_takeW (i := 3) (oi := { dst := some 21, op := Op.move (Operand.tmp 4), type := 3, pos := "world.go:65", after := #[], guard := none }) (v := _) rfl (by kernel_rfl) (by kernel_rfl) (by kernel_rfl) (fun _ _ _ h => h) (Or.inl ⟨by rfl, ?hyA4⟩) ?reA4
      case hyA4 => (intro W hSw; (try dsimp only at hSw); go_simp; try with_reducible rfl)
      try simp only [Act.put, List.setIfInBounds_toArray, List.set_cons_zero, List.set_cons_succ]
      refine' wpAnyJ_takeW (i := 4) (oi := { dst := some 22, op := Op.indexAddr 22 (Operand.tmp 20) (Operand.tmp 21), type := 0, pos := "world.go:65", after := #[{ on := 2, ground := Ground.data }, { on := 3, ground := Ground.data }], guard := none }) (v := _) rfl (by kernel_rfl) (by kernel_rfl) (by kernel_rfl) (fun _ _ _ h => h) (Or.inl ⟨by rfl, ?hyA5⟩) ?reA5
      case hyA5 => (intro W hSw; (try dsimp only at hSw); go_simp; try with_reducible rfl)
      try simp only [Act.put, List.setIfInBounds_toArray, List.set_cons_zero, List.set_cons_succ]
      refine' wpAnyJ_takeW (i := 5) (oi := { dst := some 23, op := Op.fieldAddr 119 (Operand.tmp 22) 1, type := 0, pos := "world.go:65", after := #[{ on := 4, ground := Ground.data }], guard := none }) (v := _) rfl (by kernel_rfl) (by kernel_rfl) (by kernel_rfl) (fun _ _ _ h => h) (Or.inl ⟨by rfl, ?hyA6⟩) ?reA6
      case hyA6 => (intro W hSw; (try dsimp only at hSw); go_simp; try with_reducible rfl)
      try simp only [Act.put, List.setIfInBounds_toArray, List.set_cons_zero, List.set_cons_succ]
      refine' wpAnyJ_take (i := 6) (oi := { dst := some 24, op := Op.load 41 (Operand.tmp 23), type := 41, pos := "world.go:65", after := #[{ on := 5, ground := Ground.data }], guard := none }) (v := _) rfl (by kernel_rfl) (by kernel_rfl) (by kernel_rfl) (by kernel_rfl) (fun _ _ _ h => h) (Or.inl ⟨by rfl, ?hyA7⟩) (by assumption) ?reA7
      case hyA7 => (intro W hSw; (try dsimp only at hSw); go_simp; try with_reducible rfl)
      try simp only [Act.put, List.setIfInBounds_toArray, List.set_cons_zero, List.set_cons_succ]
      refine wpAnyJ_ready (rs := [7]) (by kernel_rfl) (by simp) ?_
      refine AllReadyJ.cons (o := { dst := some 25, op := Op.call { callee := Callee.builtin Builtin.append, args := #[Operand.tmp 19, Operand.tmp 24], argTypes := #[41, 41] }, type := 41, pos := "world.go:65", after := #[{ on := 1, ground := Ground.data }, { on := 6, ground := Ground.data }], guard := none }) rfl (fun K hK => ?_) AllReadyJ.nil
      refine step_append_texts rfl (.tmp 19) (.tmp 24) rfl w1.heap.size (.slice none 0 0) 0 [] (by simp [Act.eval]) (World.ownsRow_nil _ _ _ _) (.slice af fs.length cf) fs (by simp [Act.eval]) (E3.out.later (below_drew _)) (by omega) (Nat.le_refl _) ?_
      intro f2 w2 o2 g2
      try simp only [Nat.zero_add, List.nil_append] at o2
      have B2 : Hid (Below w1.heap.size w1 w2) := (below_drew w1).grown g2 (Nat.le_refl _) (fun k e => by cases e)
      obtain ⟨a2, c2, rfl⟩ := own_len o2
      have O2 := hide o2
      have X2 : Hid (w2.heap[wr.heap.size]? = some (.cells #[.string nm, .slice none 0 0] 119 (0, 0))) := (B2.out.block (wr.heap.size) (lt_of_block X1.out)).trans X1.out
      have m1 : w2.cell? ⟨wr.heap.size, 1, none⟩ = some (.slice none 0 0) := (cell_of_row w2 (wr.heap.size) 1 _ 119 (0, 0) X2.out).trans rfl
      have m2 : w2.cell? ⟨g, o + L.length * 2 + 1, none⟩ = some (.slice af fs.length cf) := (B2.out.cell (p := ⟨g, o + L.length * 2 + 1, none⟩) (by show g < _; omega)).trans E2.out
      have fz : w2.frozen? ⟨wr.heap.size, 1, none⟩ = false := frozen_of_row w2 (wr.heap.size) 1 _ 119 X2.out
      clear o2 g2
      refine hK.out _ _ (fun _ _ => ⟨m1, m2⟩) ?_
      clear hK K
      try simp only [Act.put, List.setIfInBounds_toArray, List.set_cons_zero, List.set_cons_succ]
      refine' wpAnyJ_takeW (i := 8) (oi := { dst := some 26, op := Op.fieldAddr 119 (Operand.tmp 5) 1, type := 0, pos := "world.go:65", after := #[{ on := 0, ground := Ground.phase }, { on := 1, ground := Ground.phase }, { on := 2, ground := Ground.phase }, { on := 3, ground := Ground.phase }, { on := 4, ground := Ground.phase }, { on := 5, ground := Ground.phase }, { on := 6, ground := Ground.phase }, { on := 7, ground := Ground.phase }], guard := none }) (v := _) rfl (by kernel_rfl) (by kernel_rfl) (by kernel_rfl) (fun _ _ _ h => h) (Or.inl ⟨by rfl, ?hyA8⟩) ?reA8
      case hyA8 => (intro W hSw; (try dsimp only at hSw); go_simp; try with_reducible rfl)
      try simp only [Act.put, List.setIfInBounds_toArray, List.set_cons_zero, List.set_cons_succ]
      refine wpAnyJ_ready (rs := [9]) (by kernel_rfl) (by simp) ?_
      refine AllReadyJ.cons (o := { dst := none, op := Op.store 41 (Operand.tmp 26) (Operand.tmp 25), type := 0, pos := "world.go:65", after := #[{ on := 8, ground := Ground.data }, { on := 7, ground := Ground.data }, { on := 7, ground := Ground.chain }, { on := 0, ground := Ground.phase }, { on := 1, ground := Ground.phase }, { on := 2, ground := Ground.phase }, { on := 3, ground := Ground.phase }, { on := 4, ground := Ground.phase }, { on := 5, ground := Ground.phase }, { on := 6, ground := Ground.phase }, { on := 7, ground := Ground.phase }], guard := none }) rfl (fun K hK => ?_) AllReadyJ.nil
      go_simp
      refine hK.out _ _ (fun h _ => absurd h (by decide)) ?_
      clear hK K
      try simp only [Act.put, List.setIfInBounds_toArray, List.set_cons_zero, List.set_cons_succ]
      refine wpAnyJ_done (by kernel_rfl) ?_ _
      refine NoPanic.normal ?_
      have X3 : Hid ((w2.setCell ⟨wr.heap.size, 1, none⟩ (.slice a2 fs.length c2)).heap[wr.heap.size]? = some (.cells #[.string nm, .slice a2 fs.length c2] 119 (0, 0))) := heap_setCell_same w2 (wr.heap.size) 1 _ 119 _ X2.out
      obtain ⟨w3, hw3⟩ : ∃ X, X = w2.setCell ⟨wr.heap.size, 1, none⟩ (.slice a2 fs.length c2) := ⟨_, rfl⟩
      rw [← hw3] at X3 ⊢
      have n0 : w3.cell? ⟨wr.heap.size, 0, none⟩ = some (.string nm) := (cell_of_row w3 (wr.heap.size) 0 _ 119 (0, 0) X3.out).trans rfl
      have n1 : w3.cell? ⟨wr.heap.size, 1, none⟩ = some (.slice a2 fs.length c2) := (cell_of_row w3 (wr.heap.size) 1 _ 119 (0, 0) X3.out).trans rfl
      have B3 : Hid (Below wr.heap.size wr w3) := by rw [hw3]; exact (below_on B1.out B2.out).grown (grown_set _ _ _ _) (by have := B1.out.size; have := B2.out.size; omega) (fun k e => by cases e; omega)
      have O3 : Hid (w3.ownsRow w1.heap.size 9 1 (.slice a2 fs.length c2) fs.length (sz fs)) := by rw [hw3]; exact own_set O2.out (fun e => by have := (O2.out.lt (wr.heap.size) e).1; omega)
      have hs3 := B3.out.size
      have HO3 := hide (HO.out w3 B3.out)
      clear hw3 m1 m2 fz k1 k2
      go_wp2_with (at_builtin; refine wpList_append_own_at _ rfl _ _ 22 rfl w.heap.size 119 i0 (.agg #[.string ⟨#[]⟩, .slice none 0 0]) 2 40 Tryz.underlying22 hi0 hz0 hz1 hz2 rfl (by decide) _ L.length (kz L) rfl (HO3.out.alloc _) ⟨w3.heap.size, 0, none⟩ 1 1 [.string nm, .slice a2 fs.length c2] rfl rfl ?c1 ?c2 (by unfold maxLen; omega) (by omega) ?c5 ?_)
      case c1 => intro j u hj; match j, hj with | 0, hj => simp at hj; subst hj; simp [Addr.add] | 1, hj => simp at hj; subst hj; simp [Addr.add]
      case c2 => first | (intro u hu; simp at hu; rcases hu with rfl | rfl <;> rfl) | exact ⟨rfl, rfl⟩
      case c5 => first | omega | (simp; omega)
      intro v9 w9 ho9 hg9 _ _
      have HN : Hid (Kt w.heap.size w9 v9 ks (L ++ [(nm, a2, fs.length, c2)])) := HP.out _ w9 _ (nm, a2, fs.length, c2) (below_on B3.out (below_alloc _ _)) ⟨rfl, own_lower (own_later O3.out (below_alloc _ _)) (by omega)⟩ ho9 hg9
      have HB9 : Hid (Below w.heap.size w w9) := (below_on HB.out (below_on B3.out (below_alloc _ _))).grown hg9 (by simp; omega) (fun k e => (HO3.out.lt k e).1)
      obtain ⟨g9, c9, rfl, k1, k2⟩ := own_form ho9 (by omega)
      clear ho9 hg9
      go_wp2_with fail
      go_roundw
      case rel => exact ⟨L ++ [(nm, a2, fs.length, c2)], by simp; omega, by first | (simp; done) | (simp; go_num), HN, HB9, some ⟨g9, 0, none⟩, c9, by simp⟩
      case measure => simp [intOf]; omega
    · have t1 : ¬ (L.length : Int) < (ks.length : Int) := by omega
      have HE := hide (HL.out.ko (by omega))
      clear HL HK
      go_wp2_with fail
      go_ret
      exact ⟨_, rfl, HE.out, HB.out⟩
end Go.Proofs.YtafmiolehlagkaaGreat
