import Derived.Test.YtkohlhnkaklnpaaRdK
import Derived.Test.YtkohlhnkaklnpaaMr07
import Derived.Laws.EntriesVeiled
/-
  RecordReads: Walk is asked for, and what was lent is written over.
-/
namespace Go.Proofs.Ytkohlhnkaklnpaa
open Go.RowKit Go.Shelf
attribute [local go_sem] Oper.semAt_some
set_option maxRecDepth 100000
set_option maxHeartbeats 8000000 in
theorem seg31 {w0 wA W : World} {stop : Int} {A : Act} {b : List UInt8} {ds : List (List UInt8)} {aB KK nk c : Nat} {ao : Option Addr} {va vk : Value} {K Za : Nat → Prop} (hst : St w0 wA stop) (hb : Below wA.heap.size wA W) (hk : Kz W wA.heap.size nk K vk) (hnk : nk ≤ 8000000) (hTT : Rc.Told b ds KK) (hT0 : (Rc.get (b.drop KK)).2 = 0) (hbl : b.length ≤ 1048576)
    (hv : Bs w0 (.slice ao b.length c) b) (hal : Keeps Za W (Al aB va ds)) (dKZ : ∀ k, Za k → ¬ K k)
    (hs : A.tmps.size = 464) (hd : A.defers = []) (h0 : A.tmps.getD 0 undef = .slice ao b.length c) (h3 : A.tmps.getD 3 undef = .pointer (some ⟨w0.heap.size, 0, none⟩)) (h4 : A.tmps.getD 4 undef = .pointer (some ⟨w0.heap.size + 1, 0, none⟩)) (h5 : A.tmps.getD 5 undef = vk) (h24 : A.tmps.getD 24 undef = .pointer (some ⟨aB, 0, none⟩)) :
    Goes 31 w0 A W := by
  obtain ⟨s, eA, hsk⟩ := act_open A _ hs hd
  rw [hsk] at h0 h3 h4 h5 h24
  rw [eA, h0, h3, h4, h5, h24]
  clear eA hsk h0 h3 h4 h5 h24 hs hd
  have hsA := hst.2.2.2
  have hsW := hb.size
  have hvb : 0 < b.length → ∀ k, (Value.slice ao b.length c).ownBlock = some k → k < w0.heap.size := bs_block hv
  have hvW : Bs W (.slice ao b.length c) b := hv.below (hst.down hb) (Nat.le_refl _)
  have hcc : b.length ≤ c ∧ c ≤ 9223372036854775807 := by
    obtain ⟨ao', c', e, h1, h2, _⟩ := hv
    simp only [Value.slice.injEq] at e
    obtain ⟨_, _, rfl⟩ := e
    unfold maxLen at h2
    exact ⟨h1, by omega⟩
  have hlent := lent_any _ b W hvW (by omega)
  have HL := hide hlent
  have HH := hide (And.intro hst (And.intro hb (And.intro hk (And.intro hTT (And.intro hT0 (And.intro hv (And.intro hal (And.intro dKZ (And.intro hvb hvW)))))))))
  obtain ⟨hc1, hc2⟩ := hcc
  obtain ⟨n, hn⟩ : ∃ n, n = b.length := ⟨_, rfl⟩
  have HN := hide hn
  rw [← hn] at HL hbl hc1 ⊢
  clear hlent hst hb hk hTT hT0 hv hal dKZ hvb hvW hn hsA hsW
  unfold Goes
  conv => arg 2; whnf
  refine goes_seq (k := 32) ?_
  go_wp2_with fail
  refine HL.out.mono ?_
  rintro e w1 ⟨rfl, hr1, hb1⟩
  obtain ⟨hst, hb, hk, hTT, hT0, hv, hal, dKZ, hvb, hvW⟩ := HH.out
  have hs1 := hr1.lt
  have hsA := hst.2.2.2
  have hsW := hb.size
  have hbz : Bs w1 (.slice (some ⟨W.heap.size, 0, none⟩) b.length (b.length + 8)) b := by
    have := hr1.bs (n := b.length) (c := b.length + 8) (by simp) (by have := HN.out; omega) (by unfold maxLen; have := HN.out; omega)
    rwa [List.take_left] at this
  have hwalk := walk_any _ _ w1 hbz (.inr ⟨_, _, _, rfl⟩) (by have := HN.out; omega)
  rw [← HN.out] at hwalk
  have HWK := hide hwalk
  have H1 := hide (And.intro hr1 (And.intro hb1 hs1))
  clear hr1 hb1 hs1 hbz hwalk hst hb hk hTT hT0 hv hal dKZ hvb hvW hsA hsW HL
  have hx8 : n ≤ n + 8 := by omega
  go_wp2_with fail
  unfold Goes
  conv => arg 2; whnf
  refine goes_seq (k := 33) ?_
  go_wp2_with fail
  refine HWK.out.mono ?_
  rintro e w2 ⟨bx, vo, rfl, hbx, hbo, hov, hb2⟩
  have H2 := hide (And.intro hbx (And.intro hbo (And.intro hov hb2)))
  clear hbx hbo hov hb2 HWK
  go_wp2_with fail
  have hbB : w2.heap.size < (w2.alloc (.cells #[.func (.func 32) #[] #[.pointer (some ⟨bx, 0, none⟩)]] 45)).heap.size := by simp
  have hboxW : (w2.alloc (.cells #[.func (.func 32) #[] #[.pointer (some ⟨bx, 0, none⟩)]] 45)).heap[w2.heap.size]? = some (.cells #[.func (.func 32) #[] #[.pointer (some ⟨bx, 0, none⟩)]] 45 (0, 0)) := heap_alloc_new w2 _
  have hb3 : Below w2.heap.size w2 (w2.alloc (.cells #[.func (.func 32) #[] #[.pointer (some ⟨bx, 0, none⟩)]] 45)) := (Below.refl _ w2).alloc (Nat.le_refl _) _
  generalize w2.alloc (.cells #[.func (.func 32) #[] #[.pointer (some ⟨bx, 0, none⟩)]] 45) = w3 at *
  obtain ⟨hst, hb, hk, hTT, hT0, hv, hal, dKZ, hvb, hvW⟩ := HH.out
  obtain ⟨hr1, hb1, hs1⟩ := H1.out
  obtain ⟨hbx, hbo, hov, hb2⟩ := H2.out
  have s2 := hb2.size
  have s3 := hb3.size
  have b13 : Below w1.heap.size w1 w3 := hb2.trans (hb3.mono hb2.size)
  have bW3 : Below W.heap.size W w3 := hb1.trans (b13.mono hb1.size)
  have hr3 : Row w3 W.heap.size (b ++ List.replicate 8 201) := hr1.below b13 hs1
  have hsA := hst.2.2.2
  have hsW := hb.size
  have hstill := still_row W.heap.size (.slice ao b.length c) b w3 (by have := HN.out; omega) hr3 (hvW.below bW3 (Nat.le_refl _)) (fun h g' e => by have := hvb h g' e; omega)
  rw [← HN.out] at hstill
  have HSTL := hide hstill
  have H3 := hide (And.intro hboxW (And.intro b13 (And.intro bW3 (And.intro (hb3.block bx (lt_of_block hbo) |>.trans hbo) (own_on hov (fun k e => hb3.block k (hov.lt k e).2))))))
  have H3b := hide (hov.lt)
  have SZ := hide (And.intro hbx (And.intro s2 (And.intro s3 (And.intro hs1 (And.intro hsA (And.intro hsW (lt_of_block hbo)))))))
  clear hstill hst hb hk hTT hT0 hv hal dKZ hvb hvW hr1 hb1 hs1 hbx hbo hov hb2 s2 s3 b13 bW3 hr3 hsA hsW hboxW hb3 hbB H1 H2
  unfold Goes
  conv => arg 2; whnf
  refine goes_seq (k := 34) ?_
  go_wp2_with fail
  refine HSTL.out.mono ?_
  rintro e w4 ⟨rfl, hr4, hg4⟩
  obtain ⟨hst, hb, hk, hTT, hT0, hv, hal, dKZ, hvb, hvW⟩ := HH.out
  obtain ⟨hboxW, b13, bW3, hbx3, hov3⟩ := H3.out
  have hm4 : Mv W w4 (fun _ => False) := ⟨hg4.os.trans bW3.os, hg4.tape.trans bW3.tape, hg4.output.trans bW3.output, Nat.le_trans bW3.size hg4.size, fun k hk' _ => (hg4.block k (by have := bW3.size; omega) (fun e => by have := Option.some.inj e; omega)).trans (bW3.block k hk')⟩
  have q4 : ∀ k, k < w3.heap.size → k ≠ W.heap.size → w4.heap[k]? = w3.heap[k]? := fun k hk' hne => hg4.block k hk' (fun e => hne (Option.some.inj e))
  have hk4 : Kz w4 wA.heap.size nk K vk := hk.mv hm4 (fun _ _ e => e)
  have hlk := looks_kz (fun hs' h => looks_any wA.heap.size vk hs' w4 h) hk4
  obtain ⟨hbx, s2, s3, hs1, hsA, hsW, hltb⟩ := SZ.out
  have box4 : w4.heap[w2.heap.size]? = some (.cells #[.func (.func 32) #[] #[.pointer (some ⟨bx, 0, none⟩)]] 45 (0, 0)) := (q4 _ (lt_of_block hboxW) (by omega)).trans hboxW
  have bx4 : w4.heap[bx]? = some (.cells #[vo] 22 (0, 0)) := (q4 bx (by omega) (by omega)).trans hbx3
  have ov4 : w4.ownsRow w1.heap.size 5 1 vo b.length (Lib.byteCells b) := by
    have := own_on hov3 (fun k e => q4 k (hov3.lt k e).2 (by have := (hov3.lt k e).1; omega))
    rw [← HN.out]
    exact this
  have HLK := hide hlk
  have H4 := hide (And.intro hm4 (And.intro hk4 (And.intro box4 (And.intro bx4 ov4))))
  have S4 : Hid (W.heap.size ≤ w4.heap.size ∧ w3.heap.size ≤ w4.heap.size) := ⟨hm4.2.2.2.1, hg4.size⟩
  clear hlk hst hb hk hTT hT0 hv hal dKZ hvb hvW hboxW b13 bW3 hbx3 hov3 hm4 q4 hk4 hbx s2 s3 hs1 hsA hsW hltb box4 bx4 ov4 hr4 hg4 HSTL H3
  go_wp2_with fail
  unfold Goes
  conv => arg 2; whnf
  refine goes_seq (k := 35) ?_
  go_wp2_with fail
  refine HLK.out.mono ?_
  rintro e w5 ⟨rfl, dd, rfl⟩
  have cb4 : w4.cell? ⟨w2.heap.size, 0, none⟩ = some (.func (.func 32) #[] #[.pointer (some ⟨bx, 0, none⟩)]) := (cell_of_row _ _ 0 _ 45 (0, 0) H4.out.2.2.1).trans rfl
  have hq := run_func_nil
  clear HLK
  go_wp2_with fail
  unfold Goes
  conv => arg 2; whnf
  refine goes_seq (k := 36) ?_
  go_wp2_with fail
  unfold Goes
  conv => arg 2; whnf
  refine goes_seq (k := 37) ?_
  go_wp2_with fail
  obtain ⟨hst, hb, hk, hTT, hT0, hv, hal, dKZ, hvb, hvW⟩ := HH.out
  obtain ⟨hm4, hk4, box4, bx4, ov4⟩ := H4.out
  obtain ⟨hbx, s2, s3, hs1, hsA, hsW, hltb⟩ := SZ.out
  obtain ⟨sW4, s34⟩ := S4.out
  have b46 : Below w4.heap.size w4 ((w4.drewN dd).alloc (.cells #[.slice none 0 0, .slice none 0 0] 56)) := ⟨rfl, rfl, rfl, by simp, fun k hk' => Below.heap_alloc (w4.drewN dd) _ k hk'⟩
  have told : ((w4.drewN dd).alloc (.cells #[.slice none 0 0, .slice none 0 0] 56)).heap[w4.heap.size]? = some (.cells #[.slice none 0 0, .slice none 0 0] 56 (0, 0)) := heap_alloc_new (w4.drewN dd) _
  have hb4 : Below wA.heap.size wA w4 := hb.trans (hm4.below hb.size (fun _ e => e.elim))
  have hal4 := hal.mv hm4 (fun _ _ e => e)
  have hZ : Keeps (fun k => Za k ∨ k = w0.heap.size ∨ k = w2.heap.size ∨ k = bx ∨ vo.ownBlock = some k) w4 (Sg stop b w0 aB w2.heap.size bx va vo ds) := by
    refine ⟨fun k e => ?_, fun V hs' hv' => ⟨(hv' _ (.inr (.inl rfl))).trans (hst.halt hb4), hal4.2 V hs' (fun k e => hv' k (.inl e)), (hv' _ (.inr (.inr (.inl rfl)))).trans box4, (hv' _ (.inr (.inr (.inr (.inl rfl))))).trans bx4, own_low (own_on ov4 (fun k e => hv' k (.inr (.inr (.inr (.inr e)))))) (Nat.zero_le _)⟩⟩
    rcases e with e | e | e | e | e
    · exact hal4.1 k e
    · omega
    · rw [e]; exact lt_of_block box4
    · rw [e]; exact lt_of_block bx4
    · exact (ov4.lt k e).2
  refine seg37 hst (hb4.trans (b46.mono hb4.size)) (hk4.later b46) hnk hTT hT0 (by have := HN.out; omega) (own_nilOr ov4) (hZ.later b46) told (fun e => ?_) (fun e => ?_) (fun k e hK => ?_) (by omega) rfl rfl rfl rfl rfl rfl rfl rfl
  · have := hZ.1 _ e
    omega
  · have := (hk.lt _ e).2
    omega
  · have hkk := hk.lt k hK
    rcases e with e | e | e | e | e
    · exact dKZ k e hK
    · omega
    · omega
    · omega
    · have := (ov4.lt k e).1
      omega
end Go.Proofs.Ytkohlhnkaklnpaa
