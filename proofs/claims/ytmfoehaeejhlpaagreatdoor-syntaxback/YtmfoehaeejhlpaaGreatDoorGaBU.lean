import Derived.Test.YtmfoehaeejhlpaaGreatDoorGaBT
import Derived.Maps.AppendAt
/-
  Same: what gathers, in memory; the last pair is taken.
-/
namespace Go.Proofs.YtmfoehaeejhlpaaGreatDoor
open Go.RowKit Yn
set_option maxRecDepth 100000
def Pv (ps : List (Nat × Nat)) : List Value := ps.flatMap fun p => [.pointer (some ⟨p.1, 0, none⟩), .pointer (some ⟨p.2, 0, none⟩)]
theorem Pv_app (l m : List (Nat × Nat)) : Pv (l ++ m) = Pv l ++ Pv m := List.flatMap_append ..
theorem Pv_len : ∀ l : List (Nat × Nat), (Pv l).length = l.length * 2
  | [] => rfl
  | p :: r => by
    have := Pv_len r
    have e : Pv (p :: r) = [.pointer (some ⟨p.1, 0, none⟩), .pointer (some ⟨p.2, 0, none⟩)] ++ Pv r := rfl
    rw [e, List.length_append, this]
    show 2 + r.length * 2 = (r.length + 1) * 2
    omega
/-- What gathers: the links, the pairs that wait. -/
def Ss (B : Nat) (w : World) (s gm : Nat) (L ps : List (Nat × Nat)) : Prop := B ≤ s ∧ B ≤ gm ∧ s ≠ gm ∧ Ml w gm L ∧ ∃ ao c, w.heap[s]? = some (.cells #[.map (some gm), .slice ao ps.length c] 94 (0, 0)) ∧ w.ownsRow B 91 2 (.slice ao ps.length c) ps.length (Pv ps)
theorem Ml.mv {w w' : World} {gm : Nat} {L : List (Nat × Nat)} {S : Nat → Prop} (h : Ml w gm L) (hm : Mv w w' S) (hn : ¬ S gm) : Ml w' gm L := by
  obtain ⟨es, ck, h1, h2⟩ := h
  exact ⟨es, ck, hm.at h1 hn, h2⟩
theorem own_blk {w : World} {B e s n q : Nat} {v : Value} {xs : List Value} (h : w.ownsRow B e s v n xs) (hq : v.ownBlock = some q) : ∃ cs z, w.heap[q]? = some (.cells cs e z) := by
  rcases h.2 with ⟨rfl, -⟩ | ⟨g, c, cur, rfl, -, h2, -⟩
  · cases hq
  · have : g = q := by simpa [Value.ownBlock] using hq
    subst this
    exact ⟨_, _, h2⟩
theorem Ss.apart {B s gm : Nat} {w : World} {L ps : List (Nat × Nat)} {v : Value} {n : Nat} {xs : List Value} (h : Ss B w s gm L ps) (ho : w.ownsRow B 91 2 v n xs) : ∀ q, v.ownBlock = some q → q ≠ s ∧ q ≠ gm := by
  intro q hq
  obtain ⟨cs, z, hb⟩ := own_blk ho hq
  obtain ⟨-, -, -, ⟨es, ck, hm, -⟩, ao, c, hs, -⟩ := h
  constructor
  · rintro rfl
    rw [hb] at hs
    injection hs with hs
    injection hs with _ hs _
    exact absurd hs (by decide)
  · rintro rfl
    rw [hb] at hm
    cases hm
theorem own_less {w : World} {B g k c : Nat} {l : List (Nat × Nat)} {p : Nat × Nat} (h : w.ownsRow B 91 2 (.slice (some ⟨g, 0, none⟩) (l.length + 1) c) (l.length + 1) (Pv (l ++ [p]))) (hk : k = l.length) : w.ownsRow B 91 2 (.slice (some ⟨g, 0, none⟩) k c) k (Pv l) := by
  subst hk
  obtain ⟨h0, h⟩ := h
  refine ⟨by rw [Pv_len], ?_⟩
  rcases h with ⟨e, _⟩ | ⟨g', c', cur, e, h1, h2, h3, h4, h5, h6⟩
  · cases e
  · injection e with e1 _ e3
    injection e1 with e1
    injection e1 with e1 _ _
    subst e1 e3
    refine .inr ⟨g, c, cur, rfl, h1, h2, by omega, h4, h5, ?_⟩
    have : cur.toList.take (l.length * 2) = (cur.toList.take ((l.length + 1) * 2)).take (l.length * 2) := by rw [List.take_take]; congr 1; omega
    rw [this, h6, Pv_app, List.take_append_of_le_length (by rw [Pv_len]; omega), List.take_of_length_le (by rw [Pv_len]; omega)]
set_option maxHeartbeats 4000000 in
theorem pop_any {B s gm a b : Nat} {w : World} {L ps : List (Nat × Nat)} (h : Ss B w s gm L (ps ++ [(a, b)])) (hln : ps.length ≤ 1000000) : Calls Tryz.prog 36 #[.pointer (some ⟨s, 0, none⟩)] w fun e w' => e = .returned (.agg #[.pointer (some ⟨a, 0, none⟩), .pointer (some ⟨b, 0, none⟩)]) ∧ Ss B w' s gm L ps ∧ Mv w w' (fun x => x = s) := by
  have H := h
  obtain ⟨hBs, hBg, hsg, hm, ao, c, hs, ho⟩ := h
  rw [List.length_append, show [(a, b)].length = 1 from rfl] at hs ho
  obtain ⟨g, rfl⟩ : ∃ g, ao = some ⟨g, 0, none⟩ := by
    rcases ho.2 with ⟨e, _⟩ | ⟨g, c', cur, e, _⟩
    · injection e with _ e _; omega
    · injection e with e _ _; exact ⟨g, e⟩
  have hap := H.apart ho g rfl
  obtain ⟨m, hmm⟩ : ∃ m, m = ps.length := ⟨_, rfl⟩
  have hcap := own_cap ho
  have q0 : w.cell? ⟨g, m * 2, none⟩ = some (.pointer (some ⟨a, 0, none⟩)) := by
    rw [ho.cellAt (m * 2) (by omega), Pv_app, List.getElem?_append_right (by rw [Pv_len]; omega), Pv_len, hmm, Nat.sub_self]
    rfl
  have q1 : w.cell? ⟨g, m * 2 + 1, none⟩ = some (.pointer (some ⟨b, 0, none⟩)) := by
    rw [ho.cellAt (m * 2 + 1) (by omega), Pv_app, List.getElem?_append_right (by rw [Pv_len]; omega), Pv_len, hmm, show ps.length * 2 + 1 - ps.length * 2 = 1 by omega]
    rfl
  have ol := own_less ho rfl
  rw [← hmm] at hs hcap
  have c0 : w.cell? ⟨s, 0, none⟩ = some (.map (some gm)) := by rw [cell_of_row w s _ _ 94 (0, 0) hs]; rfl
  have c1 : w.cell? ⟨s, 1, none⟩ = some (.slice (some ⟨g, 0, none⟩) (m + 1) c) := by rw [cell_of_row w s _ _ 94 (0, 0) hs]; rfl
  have cf : w.frozen? ⟨s, 1, none⟩ = false := frozen_of_row w s 1 _ 94 hs
  have hsl := (Array.getElem?_eq_some_iff.1 hs).1
  obtain ⟨n1, n2, n3⟩ := two_new (w.setCell ⟨s, 1, none⟩ (.slice (some ⟨g, 0, none⟩) m c)) (.cells #[.pointer (some ⟨a, 0, none⟩), .pointer (some ⟨b, 0, none⟩)] 91) (.cells #[.pointer (some ⟨a, 0, none⟩), .pointer (some ⟨b, 0, none⟩)] 91)
  have hsz : (w.setCell ⟨s, 1, none⟩ (.slice (some ⟨g, 0, none⟩) m c)).heap.size = w.heap.size := World.size_setCell ..
  have m1 := (Mv.refl w (fun x => x = s)).set (g := s) rfl 1 (.slice (some ⟨g, 0, none⟩) m c)
  have S1 : Ss B (w.setCell ⟨s, 1, none⟩ (.slice (some ⟨g, 0, none⟩) m c)) s gm L ps := by
    refine ⟨hBs, hBg, hsg, hm.mv m1 (fun e => hsg e.symm), some ⟨g, 0, none⟩, c, ?_, ?_⟩
    · rw [← hmm]
      exact heap_setCell_same w s 1 _ 94 _ hs
    · exact m1.own ol (fun k e1 e2 => by
        have : g = k := by simpa [Value.ownBlock] using e1
        omega)
  have S2 : Hid (∀ w', Below (w.setCell ⟨s, 1, none⟩ (.slice (some ⟨g, 0, none⟩) m c)).heap.size (w.setCell ⟨s, 1, none⟩ (.slice (some ⟨g, 0, none⟩) m c)) w' → Ss B w' s gm L ps) := fun w' hb => by
    obtain ⟨k1, k2, k3, k4, ao', c', k5, k6⟩ := S1
    exact ⟨k1, k2, k3, k4.mv (Mv.of_below hb (fun _ => False)) (fun e => e), ao', c', (hb.block s (Array.getElem?_eq_some_iff.1 k5).1).trans k5, own_later k6 hb⟩
  have N3 := hide n3
  have M2 := hide (m1.later n3)
  rw [hsz] at n1
  have N1 := hide n1
  have hgl : g < w.heap.size := by
    obtain ⟨cs, z, hb⟩ := own_blk ho rfl
    exact (Array.getElem?_eq_some_iff.1 hb).1
  rw [← hmm] at hln
  clear n1 n2 n3 S1 m1 hsz hs ho H hm ol hmm
  go_enter Tryz.func36, Tryz.ntmps36
  go_wp2_with fail
  exact bodyPost_ret (v := .agg #[.pointer (some ⟨a, 0, none⟩), .pointer (some ⟨b, 0, none⟩)]) (res_pair rfl rfl N1.out) rfl ⟨rfl, S2.out _ N3.out, M2.out⟩
end Go.Proofs.YtmfoehaeejhlpaaGreatDoor

/-
  Same: two groups become one.
-/
namespace Go.Proofs.YtmfoehaeejhlpaaGreatDoor
open Go.RowKit Yn
set_option maxRecDepth 100000
theorem Ss.below {B s gm : Nat} {w w' : World} {L ps : List (Nat × Nat)} (h : Ss B w s gm L ps) (hb : Below w.heap.size w w') : Ss B w' s gm L ps := by
  obtain ⟨k1, k2, k3, k4, ao, c, k5, k6⟩ := h
  exact ⟨k1, k2, k3, k4.mv (Mv.of_below hb (fun _ => False)) (fun e => e), ao, c, (hb.block s (Array.getElem?_eq_some_iff.1 k5).1).trans k5, own_later k6 hb⟩
theorem Ss.gm {B s gm : Nat} {w w' : World} {L L' ps : List (Nat × Nat)} (h : Ss B w s gm L ps) (hl : Ml w' gm L') (hm : Mv w w' (fun q => q = gm)) : Ss B w' s gm L' ps := by
  have H := h
  obtain ⟨k1, k2, k3, k4, ao, c, k5, k6⟩ := h
  exact ⟨k1, k2, k3, hl, ao, c, hm.at k5 (fun e => k3 e), hm.own k6 (fun q e1 e2 => (H.apart k6 q e1).2 e2)⟩
theorem Ss.ld {B M s gm : Nat} {W w w' : World} {t : Nat → Nat} {L L' ps : List (Nat × Nat)} (h : Ss B w s gm L ps) (hd : Ld B W M t gm L w w' L') : Ss B w' s gm L' ps := h.gm hd.1 hd.2.2.2.1
/-- When nodes came to have a leader. -/
def Tn (M : Nat) (t : Nat → Nat) (n : Nat) (L : List (Nat × Nat)) : Prop := (∀ x, ¬ Ks L x → t x = M) ∧ ∀ x, Ks L x → t x < n
theorem link {B M n x1 x2 : Nat} {W : World} {t : Nat → Nat} {L L' : List (Nat × Nat)} (hI : IL B W M t L) (hT : Tn M t n L) (hn : n < M) (h1 : ¬ Ks L x1) (h2 : ¬ Ks L x2) (hne : x1 ≠ x2) (hr : Rl B W x1 x2) (q1 : ∀ p ∈ L', p = (x1, x2) ∨ p ∈ L) (q2 : (x1, x2) ∈ L') (q3 : ∀ y, Ks L y → Ks L' y) : IL B W M (fun y => if y = x1 then n else t y) L' ∧ Tn M (fun y => if y = x1 then n else t y) (n + 1) L' := by
  refine ⟨fun p hp => ?_, fun x hx => ?_, fun x hx => ?_⟩
  · rcases q1 p hp with rfl | hp
    · show (if x1 = x1 then n else t x1) < (if x2 = x1 then n else t x2) ∧ (if x2 = x1 then n else t x2) ≤ M ∧ _
      rw [if_pos rfl, if_neg (fun e => hne e.symm), hT.1 x2 h2]
      exact ⟨hn, Nat.le_refl _, hr⟩
    · obtain ⟨k, v⟩ := p
      have hk : k ≠ x1 := fun e => h1 ⟨v, e ▸ hp⟩
      obtain ⟨i1, i2, i3⟩ := hI _ hp
      show (if k = x1 then n else t k) < (if v = x1 then n else t v) ∧ (if v = x1 then n else t v) ≤ M ∧ _
      rw [if_neg hk]
      by_cases hv : v = x1
      · rw [if_pos hv]
        exact ⟨hT.2 k ⟨v, hp⟩, by omega, i3⟩
      · rw [if_neg hv]
        exact ⟨i1, i2, i3⟩
  · have hx1 : x ≠ x1 := fun e => hx ⟨x2, e ▸ q2⟩
    show (if x = x1 then n else t x) = M
    rw [if_neg hx1]
    exact hT.1 x fun hk => hx (q3 x hk)
  · show (if x = x1 then n else t x) < n + 1
    by_cases hx1 : x = x1
    · rw [if_pos hx1]; omega
    · rw [if_neg hx1]
      obtain ⟨v, hv⟩ := hx
      rcases q1 _ hv with e | hv
      · injection e with e _
        exact absurd e hx1
      · have := hT.2 x ⟨v, hv⟩
        omega
/-- Pairs that wait: their trees are one, and so great together. -/
def Pr (B : Nat) (W : World) (ps : List (Nat × Nat)) (k : Nat) : Prop := ∃ Ts : List Tree, Ts.length = ps.length ∧ szs Ts = k ∧ ∀ i (h : i < ps.length) (h' : i < Ts.length), Nd (fun q => q < B) W Ts[i] (pt ps[i].1) ∧ Rl B W ps[i].1 ps[i].2
mutual
theorem sz_er : ∀ t : Tree, sz (er t) = sz t
  | .mk op u n l a => by rw [er_mk, sz_mk, sz_mk, szs_er l]
theorem szs_er : ∀ l : List Tree, szs (ers l) = szs l
  | [] => by rw [ers]
  | t :: ts => by rw [ers, szs, szs, sz_er t, szs_er ts]
end
/-- The children of two nodes that are one. -/
theorem kids {B x1 x2 : Nat} {W : World} {T : Tree} (hT : Nd (fun q => q < B) W T (pt x1)) (hr : Rl B W x1 x2) : ∃ (op : Nat) (t : ByteArray) (n : Int) (m : Nat) (ao : Option Addr) (c gl : Nat) (gs : List Nat) (bo : Option Addr) (d hl : Nat) (hs : List Nat), Ce B W x1 op t n ao m c ∧ Ce B W x2 op t n bo m d ∧ (m ≤ c ∧ c ≤ 9223372036854775807) ∧ (m ≤ d ∧ d ≤ 9223372036854775807) ∧ gs.length = m ∧ hs.length = m ∧ (0 < m → ao = some ⟨gl, 0, none⟩ ∧ gl < B ∧ bo = some ⟨hl, 0, none⟩ ∧ hl < B) ∧ (∀ i (h : i < gs.length), W.cell? ⟨gl, i, none⟩ = some (.pointer (some ⟨gs[i], 0, none⟩))) ∧ (∀ i (h : i < hs.length), W.cell? ⟨hl, i, none⟩ = some (.pointer (some ⟨hs[i], 0, none⟩))) ∧ Pr B W (gs.zip hs) (sz T - 1) ∧ m + 1 ≤ sz T := by
  obtain ⟨T1, U, h1, h2, h3⟩ := hr
  have e0 := (nd_uniq T T1 _ hT h1).trans h3
  obtain ⟨op, t, n, l, a⟩ := T
  obtain ⟨op', t', n', l', a'⟩ := U
  rw [er_mk, er_mk] at e0
  injection e0 with e1 e2 e3 e4 _
  subst e1 e2 e3
  obtain ⟨g, ao, c, gl, gs, eg, hce, hcap, hl1, hl2, hl3⟩ := nd_open hT
  obtain ⟨g', bo, d, hl, hs, eg', hce', hcap', hk1, hk2, hk3⟩ := nd_open h2
  unfold pt at eg eg'
  injection eg with eg
  injection eg with eg
  injection eg with eg _ _
  injection eg' with eg'
  injection eg' with eg'
  injection eg' with eg' _ _
  subst eg eg'
  have elen : l'.length = l.length := by rw [← len_ers l', ← e4, len_ers]
  rw [elen] at hce' hcap' hk1
  rw [sz_mk]
  have hsl := len_szs l
  refine ⟨op, t, n, l.length, ao, c, gl, gs, bo, d, hl, hs, hce, hce', hcap, hcap', hl1, hk1, fun h0 => ⟨(hl2 h0).1, (hl2 h0).2, (hk2 (by omega)).1, (hk2 (by omega)).2⟩, fun i h => (hl3 i (by omega) h).1, fun i h => (hk3 i (by omega) h).1, ⟨l, by rw [List.length_zip]; omega, by omega, fun i h h' => ?_⟩, by omega⟩
  rw [List.length_zip] at h
  have q1 := (hl3 i h' (by omega)).2
  have q2 := (hk3 i (by omega) (by omega)).2
  have q3 : er l[i] = er (l'[i]'(by omega)) := by
    have := congrArg (fun q => q[i]?) e4
    simp only [ers_map, List.getElem?_map] at this
    rw [List.getElem?_eq_getElem h', List.getElem?_eq_getElem (by omega)] at this
    injection this
  rw [List.getElem_zip]
  exact ⟨q1, _, _, q1, q2, q3⟩
theorem add_at (g j : Nat) : (⟨g, 0, none⟩ : Addr).add j = ⟨g, j, none⟩ := by
  unfold Addr.add
  simp
  intro h
  exact h.symm
theorem info91 : (Tryz.prog.info? 91).map (fun i => (i.zero, i.size, i.bytes)) = some (some (.agg #[.pointer none, .pointer none]), 2, 16) := by kernel_rfl
/-- What is left when two nodes were joined. -/
def Jr (B : Nat) (W : World) (M s gm : Nat) (ps : List (Nat × Nat)) (n k : Nat) (w' : World) : Prop := ∃ L' ps' t' n' k', Ss B w' s gm L' (ps ++ ps') ∧ Below B W w' ∧ IL B W M t' L' ∧ Tn M t' n' L' ∧ n' ≤ n + 1 ∧ Pr B W ps' k' ∧ k' + 1 ≤ k
theorem Below.size' {B : Nat} {W w : World} (h : Below B W w) (hB : B ≤ W.heap.size) : B ≤ w.heap.size := Nat.le_trans hB h.size
end Go.Proofs.YtmfoehaeejhlpaaGreatDoor
