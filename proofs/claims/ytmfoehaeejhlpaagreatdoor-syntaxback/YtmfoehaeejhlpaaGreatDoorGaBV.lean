import Derived.Test.YtmfoehaeejhlpaaGreatDoorGaBU
/-
  Same: two groups become one: the walk.
-/
namespace Go.Proofs.YtmfoehaeejhlpaaGreatDoor
open Go.RowKit Yn
set_option maxRecDepth 100000
set_option maxHeartbeats 16000000 in
theorem join_any {B M s gm a b n : Nat} {W w : World} {t : Nat → Nat} {L ps : List (Nat × Nat)} {T : Tree} (h : Ss B w s gm L ps) (hb : Below B W w) (hBW : B ≤ W.heap.size) (hI : IL B W M t L) (hTn : Tn M t n L) (hn : n < M) (hT : Nd (fun q => q < B) W T (pt a)) (hab : Rl B W a b) (hln : ps.length + sz T ≤ 1000000) : Calls Tryz.prog 35 #[.pointer (some ⟨s, 0, none⟩), .agg #[.pointer (some ⟨a, 0, none⟩), .pointer (some ⟨b, 0, none⟩)]] w fun e w' => e = .returned (.bool true) ∧ Jr B W M s gm ps n (sz T) w' := by
  have hB0 : B ≤ w.heap.size := Nat.le_trans hBW hb.size
  have LD : Hid (∀ w' L' g, Ss B w' s gm L' ps → Below B W w' → IL B W M t L' → Rl B W g g → Calls Tryz.prog 61 #[.pointer (some ⟨s, 0, none⟩), .pointer (some ⟨g, 0, none⟩)] w' fun e w'' => ∃ x L'', e = .returned (.pointer (some ⟨x, 0, none⟩)) ∧ Rl B W g x ∧ ¬ Ks L'' x ∧ Ld B W M t gm L' w' w'' L'') := fun w' L' g h1 h2 h3 h4 => by
    obtain ⟨k1, k2, k3, k4, ao, c, k5, k6⟩ := h1
    exact leader_any k5 k4 h2 (Nat.le_trans hBW h2.size) k2 k3 h3 h4
  obtain ⟨w1, hw1⟩ : ∃ X, X = w.alloc (.cells #[.pointer (some ⟨a, 0, none⟩), .pointer (some ⟨b, 0, none⟩)] 91) := ⟨_, rfl⟩
  obtain ⟨P, hP⟩ : ∃ X, X = w.heap.size := ⟨_, rfl⟩
  have NP : w1.heap[P]? = some (.cells #[.pointer (some ⟨a, 0, none⟩), .pointer (some ⟨b, 0, none⟩)] 91 (0, 0)) := by rw [hw1, hP]; exact heap_alloc_new w _
  have Q1 : Below w.heap.size w w1 := by rw [hw1]; exact below_alloc w _
  have QD : Below w.heap.size w w1.drew := Q1.trans ((below_drew w1).mono Q1.size)
  have S1 : Hid (Ss B w1.drew s gm L ps) := h.below QD
  have HG : Hid (B ≤ gm) := h.2.1
  have HB1 : Hid (Below B W w1.drew) := hb.trans (QD.mono hB0)
  have BW1 : Hid (B ≤ w1.drew.heap.size) := Nat.le_trans hB0 QD.size
  have PG : P ≠ gm := fun e => by
    obtain ⟨-, -, -, ⟨es, ck, hm, -⟩, -⟩ := h
    have := (Array.getElem?_eq_some_iff.1 hm).1
    omega
  have CS : Hid (∀ w2, Below w2.heap.size w2 w2 → Mv w1.drew w2 (fun q => q = gm) → w2.cell? ⟨P, 0, none⟩ = some (.pointer (some ⟨a, 0, none⟩)) ∧ w2.cell? ⟨P, 1, none⟩ = some (.pointer (some ⟨b, 0, none⟩))) := fun w2 _ hm => by
    have N2 : w1.drew.heap[P]? = some (.cells #[.pointer (some ⟨a, 0, none⟩), .pointer (some ⟨b, 0, none⟩)] 91 (0, 0)) := NP
    have N3 := hm.at N2 PG
    constructor
    · rw [cell_of_row _ P _ _ 91 (0, 0) N3]; rfl
    · rw [cell_of_row _ P _ _ 91 (0, 0) N3]; rfl
  have RA : Hid (Rl B W a a) := hab.trans hab.symm
  have RB : Hid (Rl B W b b) := hab.symm.trans hab
  have RAB := hide hab
  have HI := hide hI
  have HTN := hide hTn
  have HN := hide hn
  have HTr := hide hT
  have HLN := hide hln
  have HBW := hide hBW
  have J1 := hide (LD.out w1.drew L a S1.out HB1.out hI RA.out)
  clear h hb hI hTn hn hT hab hln NP Q1 QD PG hBW hB0
  go_enter Tryz.func35, Tryz.ntmps35
  go_upto_region 1 with fail
  rw [← hw1, ← hP]
  clear hw1 hP
  refine wp_region_noPanic ?_
  refine wp_region_held_drew (S := fun V => V.cell? ⟨P, 0, none⟩ = some (.pointer (some ⟨a, 0, none⟩)) ∧ V.cell? ⟨P, 1, none⟩ = some (.pointer (some ⟨b, 0, none⟩))) (by kernel_rfl) (CS.out w1.drew (Below.refl _ _) (Mv.refl _ _)) (fun hHeld => ?_)
  refine' wpAnyH_take (i := 0) (v := _) rfl (by kernel_rfl) (by kernel_rfl) (by kernel_rfl) (fun _ _ _ h => h) (Or.inl ⟨by rfl, ?hyr1_0⟩) (by assumption) ?rer1_0
  case hyr1_0 => (intro W hSw; (try dsimp only at hSw); go_simp; try with_reducible rfl)
  try simp only [Act.put, List.setIfInBounds_toArray]
  refine' wpAnyH_take (i := 1) (v := _) rfl (by kernel_rfl) (by kernel_rfl) (by kernel_rfl) (fun _ _ _ h => h) (Or.inl ⟨by rfl, ?hyr1_1⟩) (by assumption) ?rer1_1
  case hyr1_1 => (intro W hSw; (try dsimp only at hSw); go_simp; try with_reducible rfl)
  try simp only [Act.put]
  refine' wpAnyH_take (i := 2) (v := _) rfl (by kernel_rfl) (by kernel_rfl) (by kernel_rfl) (fun _ _ _ h => h) (Or.inl ⟨by rfl, ?hyr1_2⟩) (by assumption) ?rer1_2
  case hyr1_2 => (intro W hSw; (try dsimp only at hSw); go_simp; try with_reducible rfl)
  try simp only [Act.put]
  refine' wpAnyH_take (i := 4) (v := _) rfl (by kernel_rfl) (by kernel_rfl) (by kernel_rfl) (fun _ _ _ h => h) (Or.inl ⟨by rfl, ?hyr1_4⟩) (by assumption) ?rer1_4
  case hyr1_4 => (intro W hSw; (try dsimp only at hSw); go_simp; try with_reducible rfl)
  try simp only [Act.put]
  refine' wpAnyH_take (i := 5) (v := _) rfl (by kernel_rfl) (by kernel_rfl) (by kernel_rfl) (fun _ _ _ h => h) (Or.inl ⟨by rfl, ?hyr1_5⟩) (by assumption) ?rer1_5
  case hyr1_5 => (intro W hSw; (try dsimp only at hSw); go_simp; try with_reducible rfl)
  try simp only [Act.put]
  refine' wpAnyH_take (i := 6) (v := _) rfl (by kernel_rfl) (by kernel_rfl) (by kernel_rfl) (fun _ _ _ h => h) (Or.inl ⟨by rfl, ?hyr1_6⟩) (by assumption) ?rer1_6
  case hyr1_6 => (intro W hSw; (try dsimp only at hSw); go_simp; try with_reducible rfl)
  try simp only [Act.put]
  refine wpAnyH_ready (rs := [3]) (by kernel_rfl) (by simp) ?_
  refine AllReadyH.cons (o := { dst := some 11, op := Go.Op.call { callee := Go.Callee.value (Go.Operand.func 61), args := #[Go.Operand.tmp 8, Go.Operand.tmp 10], argTypes := #[123, 23] }, type := 23, pos := "same.go:21", after := #[{ on := 0, ground := Go.Ground.data }, { on := 2, ground := Go.Ground.data }], guard := none }) rfl (fun K hK => ?_) AllReadyH.nil
  clear hHeld
  go_simp
  go_at_call 61
  refine J1.out.mono ?_
  rintro e w2 ⟨x1, L1, rfl, g1, k1, d1⟩
  have D1 := hide d1
  have G1 := hide g1
  have K1 := hide k1
  have S2 := hide (S1.out.ld d1)
  have B2 : Hid (Below B W w2) := HB1.out.trans (d1.2.2.2.1.below BW1.out (fun x e => by have := HG.out; omega))
  have J2 := hide (LD.out w2 L1 b S2.out B2.out d1.2.1 RB.out)
  clear g1 k1 d1 J1
  refine hK.out _ _ (CS.out w2 (Below.refl _ _) D1.out.2.2.2.1) (fun hHeld => ?_)
  clear hK K
  try simp only [Act.put, List.setIfInBounds_toArray, List.set_cons_zero, List.set_cons_succ]
  refine wpAnyH_ready (rs := [7]) (by kernel_rfl) (by simp) ?_
  refine AllReadyH.cons (o := { dst := some 15, op := Go.Op.call { callee := Go.Callee.value (Go.Operand.func 61), args := #[Go.Operand.tmp 12, Go.Operand.tmp 14], argTypes := #[123, 23] }, type := 23, pos := "same.go:21", after := #[{ on := 4, ground := Go.Ground.data }, { on := 6, ground := Go.Ground.data }, { on := 3, ground := Go.Ground.chain }], guard := none }) rfl (fun K hK => ?_) AllReadyH.nil
  clear hHeld
  go_simp
  go_at_call 61
  refine J2.out.mono ?_
  rintro e w3 ⟨x2, L2, rfl, g2, k2, d2⟩
  have D2 := hide d2
  have G2 := hide g2
  have K2 := hide k2
  have S3 := hide (S2.out.ld d2)
  have B3 : Hid (Below B W w3) := B2.out.trans (d2.2.2.2.1.below (Below.size' B2.out HBW.out) (fun x e => by have := HG.out; omega))
  clear g2 k2 d2 J2
  refine hK.out _ _ (CS.out w3 (Below.refl _ _) (D1.out.2.2.2.1.trans D2.out.2.2.2.1 (fun _ _ e => e))) (fun hHeld => ?_)
  clear hK K
  try simp only [Act.put, List.setIfInBounds_toArray, List.set_cons_zero, List.set_cons_succ]
  refine' wpAnyH_take (i := 8) (v := _) rfl (by kernel_rfl) (by kernel_rfl) (by kernel_rfl) (fun _ _ _ h => h) (Or.inl ⟨by rfl, ?hyr1_8⟩) (by assumption) ?rer1_8
  case hyr1_8 => (intro W hSw; (try dsimp only at hSw); go_simp; try with_reducible rfl)
  try simp only [Act.put, List.setIfInBounds_toArray]
  refine' wpAnyH_take (i := 9) (v := _) rfl (by kernel_rfl) (by kernel_rfl) (by kernel_rfl) (fun _ _ _ h => h) (Or.inl ⟨by rfl, ?hyr1_9⟩) (by assumption) ?rer1_9
  case hyr1_9 => (intro W hSw; (try dsimp only at hSw); go_simp; try with_reducible rfl)
  try simp only [Act.put]
  refine wpAnyH_done (by kernel_rfl) ?_ _
  refine NoPanic.normal ?_
  have K1' : Hid (¬ Ks L2 x1) := fun hk => K1.out ((D2.out.2.2.1 x1).2 hk)
  have R12 : Hid (Rl B W x1 x2) := G1.out.symm.trans (RAB.out.trans G2.out)
  have HT2 : Hid (Tn M t n L2) := ⟨fun x hx => HTN.out.1 x fun hk => hx ((D2.out.2.2.1 x).1 ((D1.out.2.2.1 x).1 hk)), fun x hx => HTN.out.2 x ((D1.out.2.2.1 x).2 ((D2.out.2.2.1 x).2 hx))⟩
  have I2 : Hid (IL B W M t L2) := D2.out.2.1
  have N1 : Hid (Nb w3 x1) := nb_below R12.out.nb.1 R12.out.nb.2.2.1 B3.out
  have N2 : Hid (Nb w3 x2) := nb_below R12.out.nb.2.1 R12.out.nb.2.2.2 B3.out
  clear D1 D2 S1 S2 HB1 B2 CS K1 LD BW1 HI HTN
  by_cases hx : x1 = x2
  · subst hx
    have he := eql_same (⟨x1, 0, none⟩ : Addr)
    go_wp2_with fail
    go_ret
    have := sz_pos T
    exact ⟨rfl, L2, [], t, n, 0, by rw [List.append_nil]; exact S3.out, B3.out, I2.out, HT2.out, by omega, ⟨[], rfl, by rw [szs], fun i h => absurd h (by simp)⟩, by omega⟩
  · obtain ⟨TX, UX, tx1, tx2, tx3⟩ := G1.out
    obtain ⟨op, tt, nn, m, ao1, c1, gl, gs, bo, c2, hl, hs, ce1, ce2, cap1, cap2, lg, lh, had, cg, chh, hpr, hmz⟩ := kids tx2 R12.out
    have esz : sz UX = sz T := by rw [← sz_er UX, ← tx3, nd_uniq TX T _ tx1 HTr.out, sz_er]
    rw [esz] at hpr hmz
    have HPR := hide hpr
    have HMZ := hide hmz
    clear tx1 tx2 tx3 esz hpr hmz TX UX
    have CE1 : Hid (∀ w', Below B W w' → Ce B w' x1 op tt nn ao1 m c1) := fun w' h => ce1.below h
    have CE2 : Hid (∀ w', Below B W w' → Ce B w' x2 op tt nn bo m c2) := fun w' h => ce2.below h
    have HAD := hide had
    have CG : Hid (∀ w', Below B W w' → 0 < m → ∀ i (h : i < gs.length) (h' : i < hs.length), w'.cell? ⟨gl, i, none⟩ = some (.pointer (some ⟨gs[i], 0, none⟩)) ∧ w'.cell? ⟨hl, i, none⟩ = some (.pointer (some ⟨hs[i], 0, none⟩))) := fun w' h h0 i h1 h2 => by
      have q1 := cg i h1
      have q2 := chh i h2
      unfold World.cell? at q1 q2 ⊢
      rw [h.block gl (had h0).2.1, h.block hl (had h0).2.2.2]
      exact ⟨q1, q2⟩
    have LG := hide lg
    have LH := hide lh
    have hm9 : m ≤ 1000000 := by have := HMZ.out; have := HLN.out; omega
    clear ce1 ce2 had cg chh lg lh
    obtain ⟨ca, na⟩ := N1.out
    obtain ⟨cb, nb⟩ := N2.out
    obtain ⟨j5, hj5, hjs⟩ := Option.map_eq_some_iff.1 size51z
    have he : (binOp .eql 23 (.pointer (some ⟨x1, 0, none⟩)) (.pointer (some ⟨x2, 0, none⟩))).run Tryz.prog w3 = .ok (.bool false) w3 := run_eql_ptr_other w3 Tryz.underlying23 hj5 (by rw [hjs]; decide) (fun e => by injection e with e _ _; exact hx e) na nb
    have HX := hide hx
    clear na nb hj5 hjs hx
    have JA : Hid (Calls Tryz.prog 62 #[.pointer (some ⟨x1, 0, none⟩), .pointer (some ⟨x2, 0, none⟩)] w3 fun e w' => e = .returned (.bool true) ∧ w' = w3.drew) := alike_yes (by
      obtain ⟨-, a0, a1, a2, a3⟩ := CE1.out w3 B3.out
      obtain ⟨-, b0, b1, b2, b3⟩ := CE2.out w3 B3.out
      exact ⟨a0, b0, a1, b1, a2, b2, a3, b3⟩)
    have S4 : Hid (Ss B w3.drew s gm L2 ps) := S3.out.below (below_drew w3)
    have B4 : Hid (Below B W w3.drew) := B3.out.trans ((below_drew w3).mono (Below.size' B3.out HBW.out))
    obtain ⟨w5, L3, r1, r2, r3, r4, r5, r6, r7⟩ := S4.out.2.2.2.1.store (x := x1) x2 (nb_below R12.out.nb.1 R12.out.nb.2.2.1 B4.out) (fun p hp => nb_below (I2.out p hp).2.2.nb.1 (I2.out p hp).2.2.nb.2.2.1 B4.out)
    have IT := hide (link I2.out HT2.out HN.out K1'.out K2.out HX.out R12.out r5 r6 r7)
    have S5 := hide (S4.out.gm r2 r3)
    have B5 : Hid (Below B W w5) := B4.out.trans (r3.below (Below.size' B4.out HBW.out) (fun x e => by have := HG.out; omega))
    have cs0 : w3.drew.cell? ⟨s, 0, none⟩ = some (.map (some gm)) := by
      obtain ⟨-, -, -, -, ao, c, k5, -⟩ := S4.out
      rw [cell_of_row _ s _ _ 94 (0, 0) k5]; rfl
    obtain ⟨-, -, -, -, a3⟩ := CE1.out w5 B5.out
    unfold pt at r1
    clear r2 r3 r4 r5 r6 r7
    go_wp2_with fail
    refine JA.out.mono ?_
    rintro e w4 ⟨rfl, rfl⟩
    clear JA
    go_wp2_with fail
    go_loopw [42] (fun v wr => ∃ i : Nat, v = .int .i64 (i : Int) ∧ i ≤ m ∧ Hid (Ss B wr s gm L3 (ps ++ (gs.zip hs).take i)) ∧ Hid (Below B W wr)) (fun v _ => m - (intOf v).toNat)
    case atStart => exact ⟨0, rfl, by omega, by rw [List.take_zero, List.append_nil]; exact S5.out, B5.out⟩
    case round =>
      obtain ⟨i, rfl, hi1, hS, hBr⟩ := hrel
      by_cases hi2 : i < m
      · have hz : i < (gs.zip hs).length := by rw [List.length_zip]; have := LG.out; have := LH.out; omega
        have hig : i < gs.length := by have := LG.out; omega
        have hih : i < hs.length := by have := LH.out; omega
        obtain ⟨gi, hgi⟩ : ∃ X, X = gs[i] := ⟨_, rfl⟩
        obtain ⟨hi, hhi⟩ : ∃ X, X = hs[i] := ⟨_, rfl⟩
        have ZT : Hid ((gs.zip hs).take (i + 1) = (gs.zip hs).take i ++ [(gi, hi)]) := by
          unfold Hid
          rw [List.take_succ_eq_append_getElem hz, List.getElem_zip, hgi, hhi]
        obtain ⟨qs, hqs⟩ : ∃ X, X = ps ++ (gs.zip hs).take i := ⟨_, rfl⟩
        have QS : Hid (ps ++ (gs.zip hs).take (i + 1) = qs ++ [(gi, hi)]) := by
          unfold Hid
          rw [ZT.out, ← List.append_assoc, ← hqs]
        rw [← hqs] at hS
        have hql : qs.length ≤ 1000000 := by
          have h1 : qs.length = ps.length + min i (gs.zip hs).length := by rw [hqs, List.length_append, List.length_take]
          have := HLN.out
          have := HMZ.out
          omega
        obtain ⟨n1, hn1⟩ : ∃ X, X = qs.length := ⟨_, rfl⟩
        have HSk := hS.out
        obtain ⟨k1, k2, k3, k4, ao, c0, k5, k6⟩ := HSk
        rw [← hn1] at k5 k6 hql
        obtain ⟨xs, hxs⟩ : ∃ X, X = Pv qs := ⟨_, rfl⟩
        rw [← hxs] at k6
        have OW : Hid (wr.drew.ownsRow B 91 2 (.slice ao n1 c0) n1 xs) := own_later k6 (below_drew wr)
        have AP : Hid (∀ q, (Value.slice ao n1 c0).ownBlock = some q → q ≠ s ∧ q ≠ gm) := hS.out.apart k6
        have APB : Hid (∀ q, (Value.slice ao n1 c0).ownBlock = some q → B ≤ q) := fun q e => (k6.lt q e).1
        have BWr : Hid (B ≤ wr.heap.size) := Below.size' hBr.out HBW.out
        have HSs := hide k5
        obtain ⟨rfl, hgl, rfl, hhl⟩ := HAD.out (by omega)
        have CK : Hid (∀ w9, Mv wr w9 (fun j => (Value.slice ao n1 c0).ownBlock = some j) → w9.cell? ⟨s, 1, none⟩ = some (.slice ao n1 c0) ∧ w9.cell? ⟨x1, 3, none⟩ = some (.slice (some ⟨gl, 0, none⟩) m c1) ∧ w9.cell? ⟨gl, i, none⟩ = some (.pointer (some ⟨gi, 0, none⟩)) ∧ w9.cell? ⟨x2, 3, none⟩ = some (.slice (some ⟨hl, 0, none⟩) m c2) ∧ w9.cell? ⟨hl, i, none⟩ = some (.pointer (some ⟨hi, 0, none⟩))) := fun w9 m9 => by
          have b9 : Below B W w9 := hBr.out.trans (m9.below BWr.out (fun q e => APB.out q e))
          have s9 := m9.at k5 (fun e => (AP.out s e).1 rfl)
          obtain ⟨z1, z2⟩ := CG.out w9 b9 (by omega) i hig hih
          rw [← hgi] at z1
          rw [← hhi] at z2
          refine ⟨?_, (CE1.out w9 b9).2.2.2.2, z1, (CE2.out w9 b9).2.2.2.2, z2⟩
          rw [cell_of_row w9 s _ _ 94 (0, 0) s9]; rfl
        have CA0 := CK.out wr.drew (Mv.of_below (below_drew wr) _)
        obtain ⟨nb, hnb⟩ : ∃ X, X = Obj.cells #[.pointer (some ⟨gi, 0, none⟩), .pointer (some ⟨hi, 0, none⟩)] 91 (0, 0) := ⟨_, rfl⟩
        have CB := CK.out (wr.drew.alloc nb) ((Mv.of_below (below_drew wr) _).alloc nb)
        have CN : ∀ j u, [Value.pointer (some ⟨gi, 0, none⟩), .pointer (some ⟨hi, 0, none⟩)][j]? = some u → (wr.drew.alloc nb).cell? ((⟨wr.drew.heap.size, 0, none⟩ : Addr).add j) = some u := by
          intro j u hu
          rw [add_at, cell_of_row (wr.drew.alloc nb) wr.drew.heap.size j #[.pointer (some ⟨gi, 0, none⟩), .pointer (some ⟨hi, 0, none⟩)] 91 (0, 0) (by rw [hnb]; exact heap_alloc_new wr.drew _), ← hu, List.getElem?_toArray]
        rw [hnb] at CB CN
        obtain ⟨ic, ki, kz0, kz1, kz2⟩ := Le.info_parts info91
        have HQ := hide hn1
        have HXS := hide hxs
        have MLr := hide k4
        have hd1 : Hid (B ≤ s ∧ B ≤ gm ∧ s ≠ gm) := ⟨k1, k2, k3⟩
        have i9 : (i : Int) < (m : Int) := by omega
        have hiz := hide hz
        clear hnb k1 k2 k3 k4 k5 k6 hgi hhi hqs hn1 hxs hig hih hz a3
        go_upto_region 10 with fail
        refine wp_region_late (J := fun i => i != 24) (S := (fun Wq => Wq.cell? ⟨s, 1, none⟩ = some (.slice ao n1 c0) ∧ Wq.cell? ⟨x1, 3, none⟩ = some (.slice (some ⟨gl, 0, none⟩) m c1) ∧ Wq.cell? ⟨gl, i, none⟩ = some (.pointer (some ⟨gi, 0, none⟩)) ∧ Wq.cell? ⟨x2, 3, none⟩ = some (.slice (some ⟨hl, 0, none⟩) m c2) ∧ Wq.cell? ⟨hl, i, none⟩ = some (.pointer (some ⟨hi, 0, none⟩)))) (by kernel_rfl) (CA0) (fun hHeld => ?_)
        refine' wpAnyJ_takeW (i := 0) (v := _) rfl (by kernel_rfl) (by kernel_rfl) (by kernel_rfl) (fun _ _ _ h => h) (Or.inl ⟨by rfl, ?hyj11⟩) ?rej11
        case hyj11 => (intro W hSw; (try dsimp only at hSw); go_simp; try with_reducible rfl)
        try simp only [Act.put, List.setIfInBounds_toArray]
        refine' wpAnyJ_takeW (i := 1) (v := _) rfl (by kernel_rfl) (by kernel_rfl) (by kernel_rfl) (fun _ _ _ h => h) (Or.inl ⟨by rfl, ?hyj12⟩) ?rej12
        case hyj12 => (intro W hSw; (try dsimp only at hSw); go_simp; try with_reducible rfl)
        try simp only [Act.put]
        refine' wpAnyJ_takeW (i := 2) (v := _) rfl (by kernel_rfl) (by kernel_rfl) (by kernel_rfl) (fun _ _ _ h => h) (Or.inl ⟨by rfl, ?hyj13⟩) ?rej13
        case hyj13 => (intro W hSw; (try dsimp only at hSw); go_simp; try with_reducible rfl)
        try simp only [Act.put]
        refine' wpAnyJ_takeW (i := 3) (v := _) rfl (by kernel_rfl) (by kernel_rfl) (by kernel_rfl) (fun _ _ _ h => h) (Or.inl ⟨by rfl, ?hyj14⟩) ?rej14
        case hyj14 => (intro W hSw; (try dsimp only at hSw); go_simp; try with_reducible rfl)
        try simp only [Act.put]
        refine' wpAnyJ_take (i := 4) (v := _) rfl (by kernel_rfl) (by kernel_rfl) (by kernel_rfl) (by kernel_rfl) (fun _ _ _ h => h) (Or.inl ⟨by rfl, ?hyj15⟩) (by assumption) ?rej15
        case hyj15 => (intro W hSw; (try dsimp only at hSw); go_simp; try with_reducible rfl)
        try simp only [Act.put]
        refine' wpAnyJ_takeW (i := 5) (v := _) rfl (by kernel_rfl) (by kernel_rfl) (by kernel_rfl) (fun _ _ _ h => h) (Or.inl ⟨by rfl, ?hyj16⟩) ?rej16
        case hyj16 => (intro W hSw; (try dsimp only at hSw); go_simp; try with_reducible rfl)
        try simp only [Act.put]
        refine' wpAnyJ_takeW (i := 6) (v := _) rfl (by kernel_rfl) (by kernel_rfl) (by kernel_rfl) (fun _ _ _ h => h) (Or.inl ⟨by rfl, ?hyj17⟩) ?rej17
        case hyj17 => (intro W hSw; (try dsimp only at hSw); go_simp; try with_reducible rfl)
        try simp only [Act.put]
        refine' wpAnyJ_takeW (i := 7) (v := _) rfl (by kernel_rfl) (by kernel_rfl) (by kernel_rfl) (fun _ _ _ h => h) (Or.inl ⟨by rfl, ?hyj18⟩) ?rej18
        case hyj18 => (intro W hSw; (try dsimp only at hSw); go_simp; try with_reducible rfl)
        try simp only [Act.put]
        refine' wpAnyJ_take (i := 8) (v := _) rfl (by kernel_rfl) (by kernel_rfl) (by kernel_rfl) (by kernel_rfl) (fun _ _ _ h => h) (Or.inl ⟨by rfl, ?hyj19⟩) (by assumption) ?rej19
        case hyj19 => (intro W hSw; (try dsimp only at hSw); go_simp; try with_reducible rfl)
        try simp only [Act.put]
        refine' wpAnyJ_takeW (i := 9) (v := _) rfl (by kernel_rfl) (by kernel_rfl) (by kernel_rfl) (fun _ _ _ h => h) (Or.inl ⟨by rfl, ?hyj110⟩) ?rej110
        case hyj110 => (intro W hSw; (try dsimp only at hSw); go_simp; try with_reducible rfl)
        try simp only [Act.put]
        refine' wpAnyJ_takeW (i := 10) (v := _) rfl (by kernel_rfl) (by kernel_rfl) (by kernel_rfl) (fun _ _ _ h => h) (Or.inl ⟨by rfl, ?hyj111⟩) ?rej111
        case hyj111 => (intro W hSw; (try dsimp only at hSw); go_simp; try with_reducible rfl)
        try simp only [Act.put]
        refine' wpAnyJ_take (i := 11) (v := _) rfl (by kernel_rfl) (by kernel_rfl) (by kernel_rfl) (by kernel_rfl) (fun _ _ _ h => h) (Or.inl ⟨by rfl, ?hyj112⟩) (by assumption) ?rej112
        case hyj112 => (intro W hSw; (try dsimp only at hSw); go_simp; try with_reducible rfl)
        try simp only [Act.put]
        refine' wpAnyJ_takeW (i := 12) (v := _) rfl (by kernel_rfl) (by kernel_rfl) (by kernel_rfl) (fun _ _ _ h => h) (Or.inl ⟨by rfl, ?hyj113⟩) ?rej113
        case hyj113 => (intro W hSw; (try dsimp only at hSw); go_simp; try with_reducible rfl)
        try simp only [Act.put]
        refine' wpAnyJ_takeW (i := 13) (v := _) rfl (by kernel_rfl) (by kernel_rfl) (by kernel_rfl) (fun _ _ _ h => h) (Or.inl ⟨by rfl, ?hyj114⟩) ?rej114
        case hyj114 => (intro W hSw; (try dsimp only at hSw); go_simp; try with_reducible rfl)
        try simp only [Act.put]
        refine' wpAnyJ_takeW (i := 14) (v := _) rfl (by kernel_rfl) (by kernel_rfl) (by kernel_rfl) (fun _ _ _ h => h) (Or.inl ⟨by rfl, ?hyj115⟩) ?rej115
        case hyj115 => (intro W hSw; (try dsimp only at hSw); go_simp; try with_reducible rfl)
        try simp only [Act.put]
        refine' wpAnyJ_take (i := 15) (v := _) rfl (by kernel_rfl) (by kernel_rfl) (by kernel_rfl) (by kernel_rfl) (fun _ _ _ h => h) (Or.inl ⟨by rfl, ?hyj116⟩) (by assumption) ?rej116
        case hyj116 => (intro W hSw; (try dsimp only at hSw); go_simp; try with_reducible rfl)
        try simp only [Act.put]
        refine' wpAnyJ_takeW (i := 16) (v := _) rfl (by kernel_rfl) (by kernel_rfl) (by kernel_rfl) (fun _ _ _ h => h) (Or.inl ⟨by rfl, ?hyj117⟩) ?rej117
        case hyj117 => (intro W hSw; (try dsimp only at hSw); go_simp; try with_reducible rfl)
        try simp only [Act.put]
        refine' wpAnyJ_takeW (i := 17) (v := _) rfl (by kernel_rfl) (by kernel_rfl) (by kernel_rfl) (fun _ _ _ h => h) (Or.inl ⟨by rfl, ?hyj118⟩) ?rej118
        case hyj118 => (intro W hSw; (try dsimp only at hSw); go_simp; try with_reducible rfl)
        try simp only [Act.put]
        refine' wpAnyJ_take (i := 18) (v := _) rfl (by kernel_rfl) (by kernel_rfl) (by kernel_rfl) (by kernel_rfl) (fun _ _ _ h => h) (Or.inl ⟨by rfl, ?hyj119⟩) (by assumption) ?rej119
        case hyj119 => (intro W hSw; (try dsimp only at hSw); go_simp; try with_reducible rfl)
        try simp only [Act.put]
        refine' wpAnyJ_takeW (i := 19) (v := _) rfl (by kernel_rfl) (by kernel_rfl) (by kernel_rfl) (fun _ _ _ h => h) (Or.inl ⟨by rfl, ?hyj120⟩) ?rej120
        case hyj120 => (intro W hSw; (try dsimp only at hSw); go_simp; try with_reducible rfl)
        try simp only [Act.put]
        refine wpAnyJ_ready (rs := [20]) (by kernel_rfl) (by simp) ?_
        refine AllReadyJ.cons (o := { dst := some 65, op := Go.Op.buildSlice 92 1 #[(0, Go.Operand.tmp 64)], type := 92, pos := "same.go:30", after := #[{ on := 19, ground := Go.Ground.data }], guard := none }) rfl (fun K hK => ?_) AllReadyJ.nil
        go_simp
        refine hK.out _ _ (fun _ _ => CB) ?_
        clear hK K
        try simp only [Act.put, List.setIfInBounds_toArray, List.set_cons_zero, List.set_cons_succ]
        refine wpAnyJ_ready (rs := [21]) (by kernel_rfl) (by simp) ?_
        refine AllReadyJ.cons (o := { dst := some 66, op := Go.Op.call { callee := Go.Callee.builtin Go.Builtin.append, args := #[Go.Operand.tmp 49, Go.Operand.tmp 65], argTypes := #[92, 92] }, type := 92, pos := "same.go:30", after := #[{ on := 4, ground := Go.Ground.data }, { on := 20, ground := Go.Ground.data }], guard := none }) rfl (fun K hK => ?_) AllReadyJ.nil
        refine step_append_lies _ rfl (.tmp 49) (.tmp 65) 92 rfl B 91 ic (.agg #[.pointer none, .pointer none]) 2 16 Tryz.underlying92 ki kz0 kz1 kz2 rfl (by decide) (.slice ao n1 c0) n1 xs (by simp [Act.eval]) (OW.out.alloc _) ⟨wr.drew.heap.size, 0, none⟩ 1 1 [.pointer (some ⟨gi, 0, none⟩), .pointer (some ⟨hi, 0, none⟩)] (by simp [Act.eval]) rfl CN (by intro u hu; simp at hu; rcases hu with rfl | rfl <;> rfl) (by omega) (by unfold maxLen; omega) (by omega) (by have := BWr.out; simp; omega) _ rfl ?_
        intro g9 c9 w9 ho9 hg9 _ _
        have m9 : Mv wr w9 (fun j => (Value.slice ao n1 c0).ownBlock = some j) := (((Mv.refl wr _).later (below_drew wr)).alloc _).grown hg9 (fun g _ e => e)
        have CA := CK.out w9 m9
        have FA : ∀ q, w9.frozen? ⟨s, q, none⟩ = false := fun q => frozen_of_row w9 s q _ 94 (m9.at HSs.out (fun e => (AP.out s e).1 rfl))
        refine hK.out _ _ (fun _ _ => CA) ?_
        clear hK K
        try simp only [Act.put, List.setIfInBounds_toArray, List.set_cons_zero, List.set_cons_succ]
        refine' wpAnyJ_takeW (i := 22) (v := _) rfl (by kernel_rfl) (by kernel_rfl) (by kernel_rfl) (fun _ _ _ h => h) (Or.inl ⟨by rfl, ?hyj121⟩) ?rej121
        case hyj121 => (intro W hSw; (try dsimp only at hSw); go_simp; try with_reducible rfl)
        try simp only [Act.put, List.setIfInBounds_toArray]
        refine' wpAnyJ_takeW (i := 23) (v := _) rfl (by kernel_rfl) (by kernel_rfl) (by kernel_rfl) (fun _ _ _ h => h) (Or.inl ⟨by rfl, ?hyj122⟩) ?rej122
        case hyj122 => (intro W hSw; (try dsimp only at hSw); go_simp; try with_reducible rfl)
        try simp only [Act.put]
        refine wpAnyJ_ready (rs := [24]) (by kernel_rfl) (by simp) ?_
        refine AllReadyJ.cons (o := { dst := none, op := Go.Op.store 92 (Go.Operand.tmp 68) (Go.Operand.tmp 66), type := 0, pos := "same.go:30", after := #[{ on := 23, ground := Go.Ground.data }, { on := 21, ground := Go.Ground.data }, { on := 21, ground := Go.Ground.chain }, { on := 0, ground := Go.Ground.phase }, { on := 1, ground := Go.Ground.phase }, { on := 2, ground := Go.Ground.phase }, { on := 3, ground := Go.Ground.phase }, { on := 4, ground := Go.Ground.phase }, { on := 5, ground := Go.Ground.phase }, { on := 6, ground := Go.Ground.phase }, { on := 7, ground := Go.Ground.phase }, { on := 8, ground := Go.Ground.phase }, { on := 9, ground := Go.Ground.phase }, { on := 10, ground := Go.Ground.phase }, { on := 11, ground := Go.Ground.phase }, { on := 12, ground := Go.Ground.phase }, { on := 13, ground := Go.Ground.phase }, { on := 14, ground := Go.Ground.phase }, { on := 15, ground := Go.Ground.phase }, { on := 16, ground := Go.Ground.phase }, { on := 17, ground := Go.Ground.phase }, { on := 18, ground := Go.Ground.phase }, { on := 19, ground := Go.Ground.phase }, { on := 20, ground := Go.Ground.phase }, { on := 21, ground := Go.Ground.phase }], guard := none }) rfl (fun K hK => ?_) AllReadyJ.nil
        go_simp
        refine hK.out _ _ (fun h => absurd h (by decide)) ?_
        clear hK K
        try simp only [Act.put, List.setIfInBounds_toArray, List.set_cons_zero, List.set_cons_succ]
        refine wpAnyJ_done (by kernel_rfl) ?_ _
        obtain ⟨w10, hw10⟩ : ∃ X, X = w9.setCell ⟨s, 1, none⟩ (.slice (some ⟨g9, 0, none⟩) (n1 + 1) c9) := ⟨_, rfl⟩
        have s9 := m9.at HSs.out (fun e => (AP.out s e).1 rfl)
        have hgs : g9 ≠ s := fun e => by
          obtain ⟨cs, z, hb⟩ := own_blk ho9 (q := g9) rfl
          rw [e, s9] at hb
          injection hb with hb
          injection hb with _ hb _
          exact absurd hb (by decide)
        have mz := (Mv.refl w9 (fun j => j = s)).set (g := s) rfl 1 (.slice (some ⟨g9, 0, none⟩) (n1 + 1) c9)
        have S10 : Hid (Ss B w10 s gm L3 (ps ++ (gs.zip hs).take (i + 1))) := by
          unfold Hid
          rw [QS.out, hw10]
          have el : (qs ++ [(gi, hi)]).length = n1 + 1 := by rw [List.length_append, HQ.out]; rfl
          refine ⟨hd1.out.1, hd1.out.2.1, hd1.out.2.2, (MLr.out.mv m9 (fun e => (AP.out gm e).2 rfl)).mv mz (fun e => hd1.out.2.2 e.symm), some ⟨g9, 0, none⟩, c9, ?_, ?_⟩
          · rw [el]
            exact heap_setCell_same w9 s 1 _ 94 _ s9
          · rw [el, Pv_app, ← HXS.out]
            exact mz.own ho9 (fun k e1 e2 => by
              have : g9 = k := by simpa [Value.ownBlock] using e1
              exact hgs (this.trans e2))
        have B10 : Hid (Below B W w10) := by
          unfold Hid
          rw [hw10]
          have b9 : Below B W w9 := hBr.out.trans (m9.below BWr.out (fun q e => APB.out q e))
          exact b9.trans (mz.below (Below.size' b9 HBW.out) (fun q e => by have := hd1.out.1; omega))
        rw [← hw10]
        clear hw10 s9 hgs mz ho9 hg9 m9 CA FA CA0 CB CN OW
        go_wp2_with fail
        go_roundw
        case rel => exact ⟨i + 1, by go_num, by omega, S10.out, B10.out⟩
        case measure => simp [intOf]; omega
      · obtain rfl : i = m := by omega
        have HZ : Hid ((gs.zip hs).take i = gs.zip hs) := by
          unfold Hid
          rw [List.take_of_length_le (by rw [List.length_zip]; have := LG.out; omega)]
        rw [HZ.out] at hS
        go_wp2_with fail
        go_ret
        have := HMZ.out
        exact ⟨rfl, L3, gs.zip hs, _, n + 1, sz T - 1, hS.out, hBr.out, IT.out.1, IT.out.2, Nat.le_refl _, HPR.out, by omega⟩
end Go.Proofs.YtmfoehaeejhlpaaGreatDoor
