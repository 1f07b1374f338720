/-
  World: whether kinds may be those of a world.
-/
import Derived.Test.YtafmiolehlagkaaGreatWAre
import Derived.Test.YtafmiolehlagkaaGreatWCtx
namespace Go.Proofs.YtafmiolehlagkaaGreat
open Go.RowKit
set_option maxRecDepth 100000
def fieldsOk (k : Kind) : Prop := k.2.length ≤ 4 ∧ areW k.2
def mayB (ks : List Kind) : Prop := 1 ≤ ks.length ∧ ks.length ≤ 12 ∧ (∀ k ∈ ks, fieldsOk k) ∧ areW (ks.map (·.1))
theorem sz_append (a b : List ByteArray) : sz (a ++ b) = sz a ++ sz b := by simp [sz]
theorem names_push (ks : List Kind) (i : Nat) (hi : i < ks.length) : (ks.take (i + 1)).map (·.1) = (ks.take i).map (·.1) ++ [ks[i].1] := by
  rw [List.take_succ_eq_append_getElem hi, List.map_append]
  rfl
set_option maxHeartbeats 4000000 in
theorem maybe_any {w : World} {v : Value} {ks : List Kind} (h : Kr w v ks) : Calls Tryz.prog 71 #[v] w fun e w' => (∃ b : Bool, e = .returned (.bool b) ∧ (b = true ↔ mayB ks)) ∧ Below w.heap.size w w' := by
  obtain ⟨i0, hi0, hz0, hz1, hz2⟩ := info_parts info9
  have HK := hide h
  obtain ⟨ao, c, rfl, h1, h2, h3⟩ := h
  have hbig : c ≤ 9223372036854775807 := by unfold maxLen at h2; omega
  clear h3 h2
  by_cases g1 : (ks.length : Int) < 1
  · have HN : Hid (¬ mayB ks) := fun h => by have := h.1; omega
    go_enter Tryz.func71, Tryz.ntmps71
    go_wp2_with fail
    go_ret
    first | exact ⟨.inl ⟨rfl, HN.out⟩, Below.refl _ _⟩ | exact ⟨⟨_, rfl, ⟨fun e => (by cases e), fun e => absurd e HN.out⟩⟩, Below.refl _ _⟩
  · by_cases g2 : (ks.length : Int) > 12
    · have HN : Hid (¬ mayB ks) := fun h => by have := h.2.1; omega
      go_enter Tryz.func71, Tryz.ntmps71
      go_wp2_with fail
      go_ret
      first | exact ⟨.inl ⟨rfl, HN.out⟩, Below.refl _ _⟩ | exact ⟨⟨_, rfl, ⟨fun e => (by cases e), fun e => absurd e HN.out⟩⟩, Below.refl _ _⟩
    · go_enter Tryz.func71, Tryz.ntmps71
      go_wp2_with fail
      go_loopw [3, 16] (fun v3 v16 W => ∃ i : Nat, i ≤ ks.length ∧ v16 = .int .i64 (i : Int) ∧ Hid (∀ k ∈ ks.take i, fieldsOk k) ∧ Hid (W.ownsRow w.heap.size 9 1 v3 ((ks.take i).map (·.1)).length (sz ((ks.take i).map (·.1)))) ∧ Hid (Below w.heap.size w W)) (fun _ v16 _ => ks.length - (intOf v16).toNat)
      case atStart => exact ⟨0, Nat.zero_le _, rfl, fun k hk => by simp at hk, World.ownsRow_nil _ _ _ _, Below.refl _ _⟩
      case round =>
        obtain ⟨i, hil, rfl, HA, HO, HB⟩ := hrel
        by_cases hlt : i < ks.length
        · have t1 : (i : Int) < (ks.length : Int) := by omega
          obtain ⟨ao', c', e', -, -, h3⟩ := HK.out.later HB.out
          simp only [Value.slice.injEq, true_and] at e'
          obtain ⟨rfl, rfl⟩ := e'
          obtain ⟨g, o, vf, rfl, e1, e2, e3⟩ := h3 i hlt
          have hnp := hide (names_push ks i hlt)
          have HNO : Hid (¬ fieldsOk ks[i] → ¬ mayB ks) := fun h e => h (e.2.2.1 _ (List.getElem_mem hlt))
          have HOK : Hid (fieldsOk ks[i] → ∀ k ∈ ks.take (i + 1), fieldsOk k) := fun h k hk => by
            rw [List.take_succ_eq_append_getElem hlt, List.mem_append, List.mem_singleton] at hk
            rcases hk with hk | rfl
            · exact HA.out k hk
            · exact h
          have hnl : ((ks.take i).map (·.1)).length ≤ 12 := by rw [List.length_map, List.length_take]; omega
          generalize (ks.take i).map (·.1) = N at *
          generalize ks[i] = kd at *
          obtain ⟨nm, fs⟩ := kd
          have E3 := hide e3
          obtain ⟨af, cf, rfl, -⟩ := e3
          obtain ⟨a3, c3, rfl⟩ := own_len HO.out
          dsimp only at e1 e2
          have hsz := HB.out.size
          have B5 : Hid (Below wr.heap.size wr (wr.alloc (.cells #[.string nm, .slice af fs.length cf] 119))) := below_alloc wr _
          have JA := hide (arewords_any (w := wr.alloc (.cells #[.string nm, .slice af fs.length cf] 119)) (E3.out.on (fun a x e => (B5.out.cell (p := a) (World.block_lt_of_cell? wr _ e)).trans e)))
          clear h3 E3
          by_cases g4 : (fs.length : Int) > 4
          · have HN := hide (HNO.out (fun e => by have := e.1; dsimp only at this; omega))
            clear HNO HOK JA
            go_wp2_with fail
            go_ret
            first | exact ⟨.inl ⟨rfl, HN.out⟩, below_on HB.out B5.out⟩ | exact ⟨⟨_, rfl, ⟨fun e => (by cases e), fun e => absurd e HN.out⟩⟩, below_on HB.out B5.out⟩
          · by_cases hW : areW fs
            · have JA1 : Hid (Calls Tryz.prog 143 #[.slice af fs.length cf] (wr.alloc (.cells #[.string nm, .slice af fs.length cf] 119)) fun e w' => e = .returned (.bool true) ∧ w' = wr.alloc (.cells #[.string nm, .slice af fs.length cf] 119)) := JA.out.mono (fun _e _w' ⟨⟨b, k1, k2⟩, k3⟩ => ⟨by rw [k1, k2.2 hW], k3⟩)
              have HY := hide (HOK.out ⟨by dsimp only; omega, hW⟩)
              have HX : Hid (∀ (v' : Value) (w' : World), w'.ownsRow w.heap.size 9 1 v' (N.length + 1) (sz N ++ [.string nm]) → ((wr.alloc (.cells #[.string nm, .slice af fs.length cf] 119)).alloc (.cells #[.string nm] 9)).grownBy w' (Value.slice a3 N.length c3).ownBlock → w'.ownsRow w.heap.size 9 1 v' ((ks.take (i + 1)).map (·.1)).length (sz ((ks.take (i + 1)).map (·.1))) ∧ Below w.heap.size w w') := fun v' w' k1 k2 => by
                refine ⟨?_, (below_on (below_on HB.out B5.out) (below_alloc _ _)).grown k2 (by simp; omega) (fun k e => (HO.out.lt k e).1)⟩
                rw [hnp.out, List.length_append, sz_append]
                exact k1
              clear JA HOK HNO hW hnp
              go_wp2_with (first | (go_at_call 143; refine JA1.out.mono ?_; rintro e w' ⟨rfl, rfl⟩) | (at_builtin; refine wpList_append_own_at _ rfl _ _ 41 rfl w.heap.size 9 i0 (.string ⟨#[]⟩) 1 16 Tryz.underlying41 hi0 hz0 hz1 hz2 rfl (by decide) _ N.length (sz N) rfl ((HO.out.alloc _).alloc _) ⟨wr.heap.size + 1, 0, none⟩ 1 1 [.string nm] rfl rfl ?c1 ?c2 (by unfold maxLen; omega) (by omega) ?c5 ?_))
              case c1 =>
                intro j u hj
                match j, hj with
                | 0, hj => simp at hj; subst hj; simp [Addr.add]
              case c2 =>
                intro u hu
                simp at hu
                subst hu
                rfl
              case c5 => simp; omega
              intro v' w' k1 k2 _ _
              obtain ⟨r1, r2⟩ := HX.out v' w' k1 k2
              have R1 := hide r1
              have R2 := hide r2
              clear k1 k2 r1 r2 HX
              go_wp2_with fail
              go_roundw
              case rel => exact ⟨i + 1, by omega, by go_num, HY, R1, R2⟩
              case measure => simp [intOf]; omega
            · have JA1 : Hid (Calls Tryz.prog 143 #[.slice af fs.length cf] (wr.alloc (.cells #[.string nm, .slice af fs.length cf] 119)) fun e w' => e = .returned (.bool false) ∧ w' = wr.alloc (.cells #[.string nm, .slice af fs.length cf] 119)) := JA.out.mono (fun _e _w' ⟨⟨b, k1, k2⟩, k3⟩ => ⟨by rw [k1]; cases b with
                | true => exact absurd (k2.1 rfl) hW
                | false => rfl, k3⟩)
              have HN := hide (HNO.out (fun e => hW e.2))
              clear HNO HOK JA hW
              go_wp2_with fail
              refine JA1.out.mono ?_
              rintro e w' ⟨rfl, rfl⟩
              go_wp2_with fail
              go_ret
              first | exact ⟨.inl ⟨rfl, HN.out⟩, below_on HB.out B5.out⟩ | exact ⟨⟨_, rfl, ⟨fun e => (by cases e), fun e => absurd e HN.out⟩⟩, below_on HB.out B5.out⟩
        · obtain rfl : i = ks.length := by omega
          have t1 : ¬ (ks.length : Int) < (ks.length : Int) := by omega
          have ho := HO.out
          have ha := HA.out
          rw [List.take_length] at ho ha
          have JA := hide (arewords_any (Sr.own ho))
          have HM : Hid (areW (ks.map (·.1)) ↔ mayB ks) := ⟨fun e => ⟨by omega, by omega, ha, e⟩, fun e => e.2.2.2⟩
          obtain ⟨a3, c3, rfl⟩ := own_len ho
          clear ho ha HO HA
          generalize (ks.map (·.1)).length = nn at *
          go_wp2_with fail
          refine JA.out.mono ?_
          rintro e w' ⟨⟨b, rfl, hb⟩, rfl⟩
          have HBB := hide (hb.trans HM.out)
          clear hb JA HM
          go_wp2_with fail
          go_ret
          exact ⟨⟨b, rfl, HBB.out⟩, HB.out⟩
end Go.Proofs.YtafmiolehlagkaaGreat
