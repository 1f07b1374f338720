/-
  World: whether kinds may be, by the document.
-/
import Derived.Test.YtafmiolehlagkaaGreatNWords
namespace Go.Proofs.YtafmiolehlagkaaGreat
open Go.RowKit
set_option maxRecDepth 100000
/-- Kinds that are not past a machine's reach. -/
def Sz (ks : List Kind) : Prop := ks.length * 40 ≤ 140737488351232 ∧ ∀ k ∈ ks, k.2.length * 16 ≤ 140737488351232 ∧ Small k.1 ∧ ∀ x ∈ k.2, Small x
set_option maxHeartbeats 8000000 in
theorem dmaybe_any {w : World} {v : Value} {ks : List Kind} (h : Kr w v ks) (hz : Sz ks) : Calls Tryz.prog 92 #[v] w fun e w' => (∃ b : Bool, e = .returned (.bool b) ∧ (b = true ↔ mayB ks)) ∧ Below w.heap.size w w' := by
  obtain ⟨i0, hi0, hz0, hz1, hz2⟩ := info_parts info9
  have HK := hide h
  have HZ := hide hz
  have hz := hz.1
  obtain ⟨ao, c, rfl, h1, h2, h3⟩ := h
  have hbig : c ≤ 9223372036854775807 := by unfold maxLen at h2; omega
  clear h3 h2
  go_enter Tryz.func92, Tryz.ntmps92
  go_wp2_with fail
  go_loopw [3, 4] (fun v3 v4 W => ∃ i : Nat, i ≤ ks.length ∧ v4 = .int .i64 (i : Int) ∧ Hid (∀ k ∈ ks.take i, fieldsOk k) ∧ Hid (W.ownsRow w.heap.size 9 1 v3 ((ks.take i).map (·.1)).length (sz ((ks.take i).map (·.1)))) ∧ Hid (Below w.heap.size w W)) (fun _ v4 _ => ks.length - (intOf v4).toNat)
  case atStart => exact ⟨0, Nat.zero_le _, rfl, fun k hk => by simp at hk, World.ownsRow_nil _ _ _ _, Below.refl _ _⟩
  case round =>
    obtain ⟨i, hil, rfl, HA, HO, HB⟩ := hrel
    by_cases hlt : i < ks.length
    · have t1 : (i : Int) < (ks.length : Int) := by omega
      obtain ⟨ao', c', e', -, -, h3⟩ := HK.out.later HB.out
      simp only [Value.slice.injEq, true_and] at e'
      obtain ⟨rfl, rfl⟩ := e'
      obtain ⟨g, o, vf, rfl, e1, e2, e3⟩ := h3 i hlt
      have hnp := hide (names_push ks i hlt)
      have HNO : Hid (¬ fieldsOk ks[i] → ¬ mayB ks) := fun h e => h (e.2.2.1 _ (List.getElem_mem hlt))
      have HOK : Hid (fieldsOk ks[i] → ∀ k ∈ ks.take (i + 1), fieldsOk k) := fun h k hk => by
        rw [List.take_succ_eq_append_getElem hlt, List.mem_append, List.mem_singleton] at hk
        rcases hk with hk | rfl
        · exact HA.out k hk
        · exact h
      have hnl : ((ks.take i).map (·.1)).length ≤ ks.length := by rw [List.length_map, List.length_take]; omega
      have hnl2 : ((ks.take i).map (·.1)).length < ks.length := by rw [List.length_map, List.length_take]; omega
      have hss := (HZ.out.2 _ (List.getElem_mem hlt)).2.2
      generalize (ks.take i).map (·.1) = N at *
      generalize ks[i] = kd at *
      obtain ⟨nm, fs⟩ := kd
      have JA := hide (dwords_any e3 hss)
      obtain ⟨af, cf, rfl, -⟩ := e3
      obtain ⟨a3, c3, rfl⟩ := own_len HO.out
      dsimp only at e1 e2
      have hsz := HB.out.size
      clear h3 hss
      by_cases hW : areW fs
      · have JA1 : Hid (Calls Tryz.prog 157 #[.slice af fs.length cf] wr fun e w' => e = .returned (.bool true) ∧ Below wr.heap.size wr w') := JA.out.mono (fun _e _w' ⟨⟨b, k1, k2⟩, k3⟩ => ⟨by rw [k1, k2.2 hW], k3⟩)
        clear JA
        go_wp2_with fail
        refine JA1.out.mono ?_
        rintro e w1 ⟨rfl, hb1⟩
        have HB1 := hide hb1
        replace e1 := (hb1.cell (p := ⟨g, o + i * 2, none⟩) (World.block_lt_of_cell? _ _ e1)).trans e1
        replace e2 := (hb1.cell (p := ⟨g, o + i * 2 + 1, none⟩) (World.block_lt_of_cell? _ _ e2)).trans e2
        have HO1 := hide (own_later HO.out hb1)
        have hs1 := hb1.size
        clear hb1 JA1
        by_cases g4 : (fs.length : Int) > 4
        · have HN := hide (HNO.out (fun e => by have := e.1; dsimp only at this; omega))
          clear HNO HOK hW
          go_wp2_with fail
          go_ret
          first | exact ⟨.inl ⟨rfl, HN.out⟩, below_on HB.out HB1.out⟩ | exact ⟨⟨_, rfl, ⟨fun e => (by cases e), fun e => absurd e HN.out⟩⟩, below_on HB.out HB1.out⟩
        · have HY := hide (HOK.out ⟨by dsimp only; omega, hW⟩)
          have HX : Hid (∀ (v' : Value) (w' : World), w'.ownsRow w.heap.size 9 1 v' (N.length + 1) (sz N ++ [.string nm]) → (w1.alloc (.cells #[.string nm] 9)).grownBy w' (Value.slice a3 N.length c3).ownBlock → w'.ownsRow w.heap.size 9 1 v' ((ks.take (i + 1)).map (·.1)).length (sz ((ks.take (i + 1)).map (·.1))) ∧ Below w.heap.size w w') := fun v' w' k1 k2 => by
            refine ⟨?_, (below_on (below_on HB.out HB1.out) (below_alloc _ _)).grown k2 (by simp; omega) (fun k e => (HO.out.lt k e).1)⟩
            rw [hnp.out, List.length_append, sz_append]
            exact k1
          clear HOK HNO hW hnp
          go_wp2_with (first | (at_builtin; refine wpList_append_own_at _ rfl _ _ 41 rfl w.heap.size 9 i0 (.string ⟨#[]⟩) 1 16 Tryz.underlying41 hi0 hz0 hz1 hz2 rfl (by decide) _ N.length (sz N) rfl (HO1.out.alloc _) ⟨w1.heap.size, 0, none⟩ 1 1 [.string nm] rfl rfl ?c1 ?c2 (by unfold maxLen; omega) (by omega) ?c5 ?_))
          case c1 =>
            intro j u hj
            match j, hj with
            | 0, hj => simp at hj; subst hj; simp [Addr.add]
          case c2 =>
            intro u hu
            simp at hu
            subst hu
            rfl
          case c5 => simp; omega
          intro v' w' k1 k2 _ _
          obtain ⟨r1, r2⟩ := HX.out v' w' k1 k2
          have R1 := hide r1
          have R2 := hide r2
          clear k1 k2 r1 r2 HX
          go_wp2_with fail
          go_roundw
          case rel => exact ⟨i + 1, by omega, by go_num, HY, R1, R2⟩
          case measure => simp [intOf]; omega
      · have JA1 : Hid (Calls Tryz.prog 157 #[.slice af fs.length cf] wr fun e w' => e = .returned (.bool false) ∧ Below wr.heap.size wr w') := JA.out.mono (fun _e _w' ⟨⟨b, k1, k2⟩, k3⟩ => ⟨by rw [k1]; cases b with
          | true => exact absurd (k2.1 rfl) hW
          | false => rfl, k3⟩)
        have HN := hide (HNO.out (fun e => hW e.2))
        clear HNO HOK JA hW
        go_wp2_with fail
        refine JA1.out.mono ?_
        rintro e w1 ⟨rfl, hb1⟩
        have HB1 := hide hb1
        clear hb1
        go_wp2_with fail
        go_ret
        first | exact ⟨.inl ⟨rfl, HN.out⟩, below_on HB.out HB1.out⟩ | exact ⟨⟨_, rfl, ⟨fun e => (by cases e), fun e => absurd e HN.out⟩⟩, below_on HB.out HB1.out⟩
    · obtain rfl : i = ks.length := by omega
      have t1 : ¬ (ks.length : Int) < (ks.length : Int) := by omega
      have ho := HO.out
      have ha := HA.out
      rw [List.take_length] at ho ha
      have JA := hide (dwords_any (Sr.own ho) (fun x hx => by
        obtain ⟨k, hk, rfl⟩ := List.mem_map.1 hx
        exact (HZ.out.2 k hk).2.1))
      have HM : Hid (areW (ks.map (·.1)) → 1 ≤ ks.length → ks.length ≤ 12 → mayB ks) := fun e e1 e2 => ⟨e1, e2, ha, e⟩
      have HM2 : Hid (mayB ks → areW (ks.map (·.1)) ∧ 1 ≤ ks.length ∧ ks.length ≤ 12) := fun e => ⟨e.2.2.2, e.1, e.2.1⟩
      obtain ⟨a3, c3, rfl⟩ := own_len ho
      clear ho ha HO HA
      generalize (ks.map (·.1)).length = nn at *
      generalize hAW : areW (ks.map (·.1)) = AW at *
      clear hAW
      go_wp2_with fail
      refine JA.out.mono ?_
      rintro e w1 ⟨⟨b, rfl, hb⟩, hb1⟩
      have HB1 := hide hb1
      clear hb1 JA
      by_cases hAW : AW
      · obtain rfl : b = true := hb.2 hAW
        by_cases q1 : (ks.length : Int) ≥ 1
        · by_cases q2 : (ks.length : Int) ≤ 12
          · have HY := hide (HM.out hAW (by omega) (by omega))
            clear HM HM2 hb
            go_wp2_with fail
            go_ret
            first | exact ⟨.inr ⟨rfl, HY.out⟩, below_on HB.out HB1.out⟩ | exact ⟨⟨_, rfl, ⟨fun _ => HY.out, fun _ => rfl⟩⟩, below_on HB.out HB1.out⟩
          · have HN : Hid (¬ mayB ks) := fun e => by have := (HM2.out e).2.2; omega
            have q3 : decide ((ks.length : Int) ≤ 12) = false := decide_eq_false q2
            clear HM HM2 hb
            go_wp2_with fail
            go_ret
            first | exact ⟨.inl ⟨rfl, HN.out⟩, below_on HB.out HB1.out⟩ | exact ⟨⟨_, rfl, ⟨fun e => (by cases e), fun e => absurd e HN.out⟩⟩, below_on HB.out HB1.out⟩
        · have HN : Hid (¬ mayB ks) := fun e => by have := (HM2.out e).2.1; omega
          clear HM HM2 hb
          go_wp2_with fail
          go_ret
          first | exact ⟨.inl ⟨rfl, HN.out⟩, below_on HB.out HB1.out⟩ | exact ⟨⟨_, rfl, ⟨fun e => (by cases e), fun e => absurd e HN.out⟩⟩, below_on HB.out HB1.out⟩
      · obtain rfl : b = false := by
          cases b with
          | true => exact absurd (hb.1 rfl) hAW
          | false => rfl
        have HN : Hid (¬ mayB ks) := fun e => hAW (HM2.out e).1
        clear HM HM2 hb
        go_wp2_with fail
        go_ret
        first | exact ⟨.inl ⟨rfl, HN.out⟩, below_on HB.out HB1.out⟩ | exact ⟨⟨_, rfl, ⟨fun e => (by cases e), fun e => absurd e HN.out⟩⟩, below_on HB.out HB1.out⟩
end Go.Proofs.YtafmiolehlagkaaGreat
