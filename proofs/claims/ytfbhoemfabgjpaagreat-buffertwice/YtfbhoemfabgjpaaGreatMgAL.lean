import Derived.Test.YtfbhoemfabgjpaaGreatMgAK
import Derived.Test.YtfbhoemfabgjpaaGreatMgAH
/-
  World: whether texts are words, and no two the same.
-/
namespace Go.Proofs.YtfbhoemfabgjpaaGreat
open Go.RowKit
set_option maxRecDepth 100000
def areW (l : List ByteArray) : Prop := (∀ x ∈ l, isW x) ∧ l.Nodup
theorem areW_push (l : List ByteArray) (i : Nat) (hi : i < l.length) : areW (l.take (i + 1)) ↔ areW (l.take i) ∧ isW l[i] ∧ l[i] ∉ l.take i := by
  unfold areW
  rw [List.take_succ_eq_append_getElem hi, List.nodup_append]
  simp only [List.mem_append, List.mem_singleton]
  constructor
  · rintro ⟨h1, h2, -, h4⟩
    exact ⟨⟨fun x hx => h1 x (.inl hx), h2⟩, h1 _ (.inr rfl), fun e => h4 _ e _ rfl rfl⟩
  · rintro ⟨⟨h1, h2⟩, h3, h4⟩
    refine ⟨fun x hx => ?_, h2, by simp, fun a ha b hb e => h4 (by rw [← hb, ← e]; exact ha)⟩
    rcases hx with hx | rfl
    · exact h1 x hx
    · exact h3
theorem areW_take (l : List ByteArray) (i : Nat) (h : areW l) : areW (l.take i) := ⟨fun x hx => h.1 x (List.mem_of_mem_take hx), h.2.sublist (List.take_sublist _ _)⟩
set_option maxHeartbeats 4000000 in
theorem arewords_any {w : World} {v : Value} {l : List ByteArray} (h : Sr w v l) : Calls Tryz.prog 30 #[v] w fun e w' => (∃ b : Bool, e = .returned (.bool b) ∧ (b = true ↔ areW l)) ∧ w' = w := by
  obtain ⟨ao, c, rfl, h1, h2, h3⟩ := h
  have hbig : c ≤ 9223372036854775807 := by unfold maxLen at h2; omega
  have H2 := hide h2
  have H3 := hide h3
  clear h3 h2
  go_enter Tryz.func30, Tryz.ntmps30
  go_wp2_with fail
  go_loopw [7] (fun v7 W => ∃ i : Nat, i ≤ l.length ∧ v7 = .int .i64 (i : Int) ∧ Hid (areW (l.take i)) ∧ Hid (W = w)) (fun v7 _ => l.length - (intOf v7).toNat)
  case atStart => exact ⟨0, Nat.zero_le _, rfl, ⟨fun x hx => by simp at hx, by simp⟩, rfl⟩
  case round =>
    obtain ⟨i, hil, rfl, HA, HW⟩ := hrel
    by_cases hlt : i < l.length
    · have t1 : (i : Int) < (l.length : Int) := by omega
      obtain ⟨g, o, rfl, e1⟩ := H3.out i hlt
      rw [← HW.out] at e1
      have hS : Sr wr (.slice (some ⟨g, o, none⟩) i c) (l.take i) := by
        have hl : (l.take i).length = i := by rw [List.length_take]; omega
        refine ⟨some ⟨g, o, none⟩, c, by rw [hl], by omega, H2.out, fun j hj => ⟨g, o, rfl, ?_⟩⟩
        obtain ⟨g', o', e', z⟩ := H3.out j (by omega)
        simp only [Option.some.injEq, Addr.mk.injEq, and_true] at e'
        obtain ⟨rfl, rfl⟩ := e'
        rw [List.getElem_take, HW.out]
        exact z
      have hp := areW_push l i hlt
      have hno : ¬ areW (l.take (i + 1)) → ¬ areW l := fun h e => h (areW_take l _ e)
      have HP := hide hp
      have HNO := hide hno
      letI : Decidable (l[i] ∈ l.take i) := Classical.propDecidable _
      have JC := hide (contains_any hS l[i])
      have JC1 : Hid (l[i] ∈ l.take i → Calls Tryz.prog 60 #[.slice (some ⟨g, o, none⟩) i c, .string l[i]] wr fun e w' => e = .returned (.bool true) ∧ w' = wr) := fun hm => by
        have := JC.out
        rw [decide_eq_true hm] at this
        exact this
      have JC0 : Hid (l[i] ∉ l.take i → Calls Tryz.prog 60 #[.slice (some ⟨g, o, none⟩) i c, .string l[i]] wr fun e w' => e = .returned (.bool false) ∧ w' = wr) := fun hm => by
        have := JC.out
        rw [decide_eq_false hm] at this
        exact this
      have JW := hide (word_any l[i] wr)
      have tm : (i : Int) ≤ (l.length : Int) := by omega
      have tm2 : (i : Int) ≤ (c : Int) := by omega
      clear JC
      clear hS hp hno
      generalize l[i] = x at *
      by_cases hw : isW x
      · have JW1 : Hid (Calls Tryz.prog 59 #[.string x] wr fun e w' => e = .returned (.bool true) ∧ w' = wr) := JW.out.mono (fun _e _w' ⟨⟨b, k1, k2⟩, k3⟩ => ⟨by rw [k1, k2.2 hw], k3⟩)
        by_cases hm : x ∈ l.take i
        · have JC := hide (JC1.out hm)
          clear JC1 JC0
          have HN := hide (HNO.out (fun e => (HP.out.1 e).2.2 hm))
          clear JW hw hm HP HNO
          go_wp2_with fail
          refine JW1.out.mono ?_
          rintro e w' ⟨rfl, rfl⟩
          go_wp2_with fail
          refine JC.out.mono ?_
          rintro e w' ⟨rfl, rfl⟩
          go_wp2_with fail
          go_ret
          exact ⟨⟨_, rfl, ⟨fun e => (by cases e), fun e => absurd e HN.out⟩⟩, HW.out⟩
        · have JC := hide (JC0.out hm)
          clear JC1 JC0
          have HN := hide (HP.out.2 ⟨HA.out, hw, hm⟩)
          clear JW hw hm HP HNO
          go_wp2_with fail
          refine JW1.out.mono ?_
          rintro e w' ⟨rfl, rfl⟩
          go_wp2_with fail
          refine JC.out.mono ?_
          rintro e w' ⟨rfl, rfl⟩
          go_wp2_with fail
          go_roundw
          case rel => exact ⟨i + 1, by omega, by go_num, HN, HW⟩
          case measure => simp [intOf]; omega
      · have JW1 : Hid (Calls Tryz.prog 59 #[.string x] wr fun e w' => e = .returned (.bool false) ∧ w' = wr) := JW.out.mono (fun _e _w' ⟨⟨b, k1, k2⟩, k3⟩ => ⟨by rw [k1]; cases b with
          | true => exact absurd (k2.1 rfl) hw
          | false => rfl, k3⟩)
        have HN := hide (HNO.out (fun e => hw (HP.out.1 e).2.1))
        clear JW hw HP HNO JC1 JC0
        go_wp2_with fail
        refine JW1.out.mono ?_
        rintro e w' ⟨rfl, rfl⟩
        go_wp2_with fail
        go_ret
        exact ⟨⟨_, rfl, ⟨fun e => (by cases e), fun e => absurd e HN.out⟩⟩, HW.out⟩
    · obtain rfl : i = l.length := by omega
      have t1 : ¬ (l.length : Int) < (l.length : Int) := by omega
      have hy := HA.out
      rw [List.take_length] at hy
      have HY := hide hy
      clear HA hy
      go_wp2_with fail
      go_ret
      first | exact ⟨.inr ⟨rfl, HY.out⟩, HW.out⟩ | exact ⟨⟨_, rfl, ⟨fun _ => HY.out, fun _ => rfl⟩⟩, HW.out⟩
end Go.Proofs.YtfbhoemfabgjpaaGreat

/-
  World: slices.Clone of texts.
-/
namespace Go.Proofs.YtfbhoemfabgjpaaGreat
open Go.RowKit
set_option maxRecDepth 100000
theorem info9 : (Tryz.prog.info? 9).map (fun i => (i.zero, i.size, i.bytes)) = some (some (.string ⟨#[]⟩), 1, 16) := by kernel_rfl
def sz (l : List ByteArray) : List Value := l.map Value.string
theorem sz_len (l : List ByteArray) : (sz l).length = l.length := by simp [sz]
theorem sz_one (l : List ByteArray) : ∀ u ∈ sz l, u.oneCell' = true := by
  intro u hu
  simp only [sz, List.mem_map] at hu
  obtain ⟨x, -, rfl⟩ := hu
  rfl
theorem sz_at (l : List ByteArray) (i : Nat) (h : i < l.length) : (sz l)[i]? = some (.string l[i]) := by simp [sz, h]
theorem Sr.own {w : World} {v : Value} {l : List ByteArray} {B : Nat} (h : w.ownsRow B 9 1 v l.length (sz l)) : Sr w v l := by
  rcases h.2 with ⟨rfl, hl⟩ | ⟨g, c, cur, rfl, -, hg, h1, h2, hcs, htake⟩
  · obtain rfl := List.eq_nil_of_length_eq_zero hl
    exact ⟨none, 0, rfl, Nat.le_refl _, Nat.zero_le _, fun j hj => absurd hj (by simp)⟩
  · refine ⟨_, c, rfl, h1, h2, fun j hj => ⟨g, 0, rfl, ?_⟩⟩
    rw [Nat.zero_add, h.cellAt j (by omega), sz_at l j hj]
set_option maxHeartbeats 1000000 in
theorem clone_texts (v : Value) (l : List ByteArray) (w : World) (h : Sr w v l) (hn : l.length ≤ 1000000) :
    Calls Tryz.prog 32 #[v] w fun e w' => ∃ v', e = .returned v' ∧ w'.ownsRow w.heap.size 9 1 v' l.length (sz l) ∧ Below w.heap.size w w' := by
  obtain ⟨i0, hi, hz0, hz1, hz2⟩ := info_parts info9
  have q41 : ∀ (w : World) (a : Option Addr) (n c n' c' : Nat), (binOp .eql 65 (.slice a n c) (.slice none n' c')).run Tryz.prog w = .ok (.bool a.isNone) w := fun w a n c n' c' => Lib.run_eql_slice_nil w _ _ a n c n' c' Tryz.underlying65
  obtain ⟨ao, c, rfl, h1, h2, h3⟩ := h
  cases ao with
  | none =>
    obtain rfl : l = [] := by
      cases l with
      | nil => rfl
      | cons x t =>
        obtain ⟨g, o, e, -⟩ := h3 0 (by simp)
        cases e
    clear h3
    go_enter Tryz.func32, Tryz.ntmps32
    go_wp2_with fail
    go_ret
    exact ⟨_, rfl, World.ownsRow_nil _ _ _ _, Below.refl _ _⟩
  | some ad =>
    have H : Hid (∀ j u, (sz l)[j]? = some u → (w.alloc (.cells #[] 9)).cell? (ad.add j) = some u) := fun j u hj => by
      have hj2 : j < l.length := by
        have := (List.getElem?_eq_some_iff.1 hj).1
        rwa [sz_len] at this
      rw [sz_at l j hj2] at hj
      obtain ⟨g', o', e3, z4⟩ := h3 j hj2
      obtain rfl := Option.some.inj e3
      rw [add_at, ← Option.some.inj hj]
      exact ((below_alloc w _).cell (p := ⟨g', o' + j, none⟩) (World.block_lt_of_cell? w _ z4)).trans z4
    clear h3
    go_enter Tryz.func32, Tryz.ntmps32
    go_wp2_with (at_builtin; refine wpList_append_own_at _ rfl _ _ 65 rfl w.heap.size 9 i0 (.string ⟨#[]⟩) 1 16 Tryz.underlying65 hi hz0 hz1 hz2 rfl (by decide) _ 0 [] rfl (World.ownsRow_lit w #[] 0 (Nat.le_refl _) (Nat.zero_le _) rfl) ad l.length c (sz l) rfl (by rw [sz_len]; omega) H.out (sz_one l) (by unfold maxLen; omega) (by omega) (by simp) ?_)
    intro v' w' ho hg _ _
    obtain ⟨ao, c, rfl⟩ := own_len ho
    have HO := hide ho
    have HG := hide hg
    clear ho hg
    go_wp2_with fail
    go_ret
    refine ⟨_, rfl, ?_, (below_alloc w _).grown HG.out (by simp) (fun k e => ?_)⟩
    · have := HO.out
      simpa using this
    · simp [Value.ownBlock] at e
      omega
end Go.Proofs.YtfbhoemfabgjpaaGreat

/-
  World: whether kinds may be those of a world.
-/
namespace Go.Proofs.YtfbhoemfabgjpaaGreat
open Go.RowKit
set_option maxRecDepth 100000
def fieldsOk (k : Kind) : Prop := k.2.length ≤ 4 ∧ areW k.2
def mayB (ks : List Kind) : Prop := 1 ≤ ks.length ∧ ks.length ≤ 12 ∧ (∀ k ∈ ks, fieldsOk k) ∧ areW (ks.map (·.1))
theorem sz_append (a b : List ByteArray) : sz (a ++ b) = sz a ++ sz b := by simp [sz]
theorem names_push (ks : List Kind) (i : Nat) (hi : i < ks.length) : (ks.take (i + 1)).map (·.1) = (ks.take i).map (·.1) ++ [ks[i].1] := by
  rw [List.take_succ_eq_append_getElem hi, List.map_append]
  rfl
set_option maxHeartbeats 4000000 in
theorem maybe_any {w : World} {v : Value} {ks : List Kind} (h : Kr w v ks) : Calls Tryz.prog 14 #[v] w fun e w' => (∃ b : Bool, e = .returned (.bool b) ∧ (b = true ↔ mayB ks)) ∧ Below w.heap.size w w' := by
  obtain ⟨i0, hi0, hz0, hz1, hz2⟩ := info_parts info9
  have HK := hide h
  obtain ⟨ao, c, rfl, h1, h2, h3⟩ := h
  have hbig : c ≤ 9223372036854775807 := by unfold maxLen at h2; omega
  clear h3 h2
  by_cases g1 : (ks.length : Int) < 1
  · have HN : Hid (¬ mayB ks) := fun h => by have := h.1; omega
    go_enter Tryz.func14, Tryz.ntmps14
    go_wp2_with fail
    go_ret
    first | exact ⟨.inl ⟨rfl, HN.out⟩, Below.refl _ _⟩ | exact ⟨⟨_, rfl, ⟨fun e => (by cases e), fun e => absurd e HN.out⟩⟩, Below.refl _ _⟩
  · by_cases g2 : (ks.length : Int) > 12
    · have HN : Hid (¬ mayB ks) := fun h => by have := h.2.1; omega
      go_enter Tryz.func14, Tryz.ntmps14
      go_wp2_with fail
      go_ret
      first | exact ⟨.inl ⟨rfl, HN.out⟩, Below.refl _ _⟩ | exact ⟨⟨_, rfl, ⟨fun e => (by cases e), fun e => absurd e HN.out⟩⟩, Below.refl _ _⟩
    · go_enter Tryz.func14, Tryz.ntmps14
      go_wp2_with fail
      go_loopw [3, 16] (fun v3 v16 W => ∃ i : Nat, i ≤ ks.length ∧ v16 = .int .i64 (i : Int) ∧ Hid (∀ k ∈ ks.take i, fieldsOk k) ∧ Hid (W.ownsRow w.heap.size 9 1 v3 ((ks.take i).map (·.1)).length (sz ((ks.take i).map (·.1)))) ∧ Hid (Below w.heap.size w W)) (fun _ v16 _ => ks.length - (intOf v16).toNat)
      case atStart => exact ⟨0, Nat.zero_le _, rfl, fun k hk => by simp at hk, World.ownsRow_nil _ _ _ _, Below.refl _ _⟩
      case round =>
        obtain ⟨i, hil, rfl, HA, HO, HB⟩ := hrel
        by_cases hlt : i < ks.length
        · have t1 : (i : Int) < (ks.length : Int) := by omega
          obtain ⟨ao', c', e', -, -, h3⟩ := HK.out.later HB.out
          simp only [Value.slice.injEq, true_and] at e'
          obtain ⟨rfl, rfl⟩ := e'
          obtain ⟨g, o, vf, rfl, e1, e2, e3⟩ := h3 i hlt
          have hnp := hide (names_push ks i hlt)
          have HNO : Hid (¬ fieldsOk ks[i] → ¬ mayB ks) := fun h e => h (e.2.2.1 _ (List.getElem_mem hlt))
          have HOK : Hid (fieldsOk ks[i] → ∀ k ∈ ks.take (i + 1), fieldsOk k) := fun h k hk => by
            rw [List.take_succ_eq_append_getElem hlt, List.mem_append, List.mem_singleton] at hk
            rcases hk with hk | rfl
            · exact HA.out k hk
            · exact h
          have hnl : ((ks.take i).map (·.1)).length ≤ 12 := by rw [List.length_map, List.length_take]; omega
          generalize (ks.take i).map (·.1) = N at *
          generalize ks[i] = kd at *
          obtain ⟨nm, fs⟩ := kd
          have E3 := hide e3
          obtain ⟨af, cf, rfl, -⟩ := e3
          obtain ⟨a3, c3, rfl⟩ := own_len HO.out
          dsimp only at e1 e2
          have hsz := HB.out.size
          have B5 : Hid (Below wr.heap.size wr (wr.alloc (.cells #[.string nm, .slice af fs.length cf] 67))) := below_alloc wr _
          have JA := hide (arewords_any (w := wr.alloc (.cells #[.string nm, .slice af fs.length cf] 67)) (E3.out.on (fun a x e => (B5.out.cell (p := a) (World.block_lt_of_cell? wr _ e)).trans e)))
          clear h3 E3
          by_cases g4 : (fs.length : Int) > 4
          · have HN := hide (HNO.out (fun e => by have := e.1; dsimp only at this; omega))
            clear HNO HOK JA
            go_wp2_with fail
            go_ret
            first | exact ⟨.inl ⟨rfl, HN.out⟩, below_on HB.out B5.out⟩ | exact ⟨⟨_, rfl, ⟨fun e => (by cases e), fun e => absurd e HN.out⟩⟩, below_on HB.out B5.out⟩
          · by_cases hW : areW fs
            · have JA1 : Hid (Calls Tryz.prog 30 #[.slice af fs.length cf] (wr.alloc (.cells #[.string nm, .slice af fs.length cf] 67)) fun e w' => e = .returned (.bool true) ∧ w' = wr.alloc (.cells #[.string nm, .slice af fs.length cf] 67)) := JA.out.mono (fun _e _w' ⟨⟨b, k1, k2⟩, k3⟩ => ⟨by rw [k1, k2.2 hW], k3⟩)
              have HY := hide (HOK.out ⟨by dsimp only; omega, hW⟩)
              have HX : Hid (∀ (v' : Value) (w' : World), w'.ownsRow w.heap.size 9 1 v' (N.length + 1) (sz N ++ [.string nm]) → ((wr.alloc (.cells #[.string nm, .slice af fs.length cf] 67)).alloc (.cells #[.string nm] 9)).grownBy w' (Value.slice a3 N.length c3).ownBlock → w'.ownsRow w.heap.size 9 1 v' ((ks.take (i + 1)).map (·.1)).length (sz ((ks.take (i + 1)).map (·.1))) ∧ Below w.heap.size w w') := fun v' w' k1 k2 => by
                refine ⟨?_, (below_on (below_on HB.out B5.out) (below_alloc _ _)).grown k2 (by simp; omega) (fun k e => (HO.out.lt k e).1)⟩
                rw [hnp.out, List.length_append, sz_append]
                exact k1
              clear JA HOK HNO hW hnp
              go_wp2_with (first | (go_at_call 30; refine JA1.out.mono ?_; rintro e w' ⟨rfl, rfl⟩) | (at_builtin; refine wpList_append_own_at _ rfl _ _ 65 rfl w.heap.size 9 i0 (.string ⟨#[]⟩) 1 16 Tryz.underlying65 hi0 hz0 hz1 hz2 rfl (by decide) _ N.length (sz N) rfl ((HO.out.alloc _).alloc _) ⟨wr.heap.size + 1, 0, none⟩ 1 1 [.string nm] rfl rfl ?c1 ?c2 (by unfold maxLen; omega) (by omega) ?c5 ?_))
              case c1 =>
                intro j u hj
                match j, hj with
                | 0, hj => simp at hj; subst hj; simp [Addr.add]
              case c2 =>
                intro u hu
                simp at hu
                subst hu
                rfl
              case c5 => simp; omega
              intro v' w' k1 k2 _ _
              obtain ⟨r1, r2⟩ := HX.out v' w' k1 k2
              have R1 := hide r1
              have R2 := hide r2
              clear k1 k2 r1 r2 HX
              go_wp2_with fail
              go_roundw
              case rel => exact ⟨i + 1, by omega, by go_num, HY, R1, R2⟩
              case measure => simp [intOf]; omega
            · have JA1 : Hid (Calls Tryz.prog 30 #[.slice af fs.length cf] (wr.alloc (.cells #[.string nm, .slice af fs.length cf] 67)) fun e w' => e = .returned (.bool false) ∧ w' = wr.alloc (.cells #[.string nm, .slice af fs.length cf] 67)) := JA.out.mono (fun _e _w' ⟨⟨b, k1, k2⟩, k3⟩ => ⟨by rw [k1]; cases b with
                | true => exact absurd (k2.1 rfl) hW
                | false => rfl, k3⟩)
              have HN := hide (HNO.out (fun e => hW e.2))
              clear HNO HOK JA hW
              go_wp2_with fail
              refine JA1.out.mono ?_
              rintro e w' ⟨rfl, rfl⟩
              go_wp2_with fail
              go_ret
              first | exact ⟨.inl ⟨rfl, HN.out⟩, below_on HB.out B5.out⟩ | exact ⟨⟨_, rfl, ⟨fun e => (by cases e), fun e => absurd e HN.out⟩⟩, below_on HB.out B5.out⟩
        · obtain rfl : i = ks.length := by omega
          have t1 : ¬ (ks.length : Int) < (ks.length : Int) := by omega
          have ho := HO.out
          have ha := HA.out
          rw [List.take_length] at ho ha
          have JA := hide (arewords_any (Sr.own ho))
          have HM : Hid (areW (ks.map (·.1)) ↔ mayB ks) := ⟨fun e => ⟨by omega, by omega, ha, e⟩, fun e => e.2.2.2⟩
          obtain ⟨a3, c3, rfl⟩ := own_len ho
          clear ho ha HO HA
          generalize (ks.map (·.1)).length = nn at *
          go_wp2_with fail
          refine JA.out.mono ?_
          rintro e w' ⟨⟨b, rfl, hb⟩, rfl⟩
          have HBB := hide (hb.trans HM.out)
          clear hb JA HM
          go_wp2_with fail
          go_ret
          exact ⟨⟨b, rfl, HBB.out⟩, HB.out⟩
end Go.Proofs.YtfbhoemfabgjpaaGreat

/-
  World: kinds cloned; New.
-/
namespace Go.Proofs.YtfbhoemfabgjpaaGreat
open Go.RowKit
set_option maxRecDepth 100000
theorem infoK : (Tryz.prog.info? 67).map (fun i => (i.zero, i.size, i.bytes)) = some (some (.agg #[.string ⟨#[]⟩, .slice none 0 0]), 2, 40) := by kernel_rfl
abbrev Kc := ByteArray × Option Addr × Nat × Nat
def kcV (p : Kc) : Value := .slice p.2.1 p.2.2.1 p.2.2.2
def kz : List Kc → List Value
  | [] => []
  | p :: l => .string p.1 :: .slice p.2.1 p.2.2.1 p.2.2.2 :: kz l
theorem kz_len : ∀ l : List Kc, (kz l).length = l.length * 2
  | [] => rfl
  | p :: t => by simp [kz, kz_len t]; omega
theorem kz_at : ∀ (l : List Kc) (i : Nat) (h : i < l.length), (kz l)[i * 2]? = some (.string l[i].1) ∧ (kz l)[i * 2 + 1]? = some (kcV l[i])
  | p :: t, 0, _ => ⟨rfl, rfl⟩
  | p :: t, i + 1, h => by
    have := kz_at t i (by simpa using h)
    rw [show (i + 1) * 2 = i * 2 + 1 + 1 by omega]
    simpa [kz] using this
theorem kz_set : ∀ (l : List Kc) (i : Nat) (x : Option Addr × Nat × Nat) (_h : i < l.length), (kz l).set (i * 2 + 1) (.slice x.1 x.2.1 x.2.2) = kz (l.set i (l[i].1, x))
  | p :: t, 0, x, _ => rfl
  | p :: t, i + 1, x, h => by
    have := kz_set t i x (by simpa using h)
    rw [show (i + 1) * 2 = i * 2 + 1 + 1 by omega]
    simpa [kz] using this
theorem kz_one : ∀ l : List Kc, ∀ u ∈ kz l, u.oneCell' = true
  | [], _, h => by cases h
  | p :: t, v, h => by
    simp only [kz, List.mem_cons] at h
    rcases h with rfl | rfl | h
    · rfl
    · rfl
    · exact kz_one t v h
/-- Kinds as they lie: names, and where the fields are. -/
def Kl (w : World) (v : Value) (L : List Kc) : Prop :=
  ∃ ao c, v = .slice ao L.length c ∧ L.length ≤ c ∧ c ≤ maxLen ∧ ∀ i (hi : i < L.length), ∃ g o, ao = some ⟨g, o, none⟩ ∧ w.cell? ⟨g, o + i * 2, none⟩ = some (.string L[i].1) ∧ w.cell? ⟨g, o + i * 2 + 1, none⟩ = some (kcV L[i])
theorem Kr.kl {w : World} {v : Value} {ks : List Kind} (h : Kr w v ks) : ∃ L, Kl w v L ∧ L.length = ks.length ∧ ∀ i (h1 : i < L.length) (h2 : i < ks.length), L[i].1 = ks[i].1 ∧ Sr w (kcV L[i]) ks[i].2 := by
  obtain ⟨ao, c, rfl, h1, h2, h3⟩ := h
  have hL : ∀ n, n ≤ ks.length → ∃ L : List Kc, L.length = n ∧ ∀ i (h1 : i < L.length) (h2 : i < ks.length), (∃ g o, ao = some ⟨g, o, none⟩ ∧ w.cell? ⟨g, o + i * 2, none⟩ = some (.string L[i].1) ∧ w.cell? ⟨g, o + i * 2 + 1, none⟩ = some (kcV L[i])) ∧ L[i].1 = ks[i].1 ∧ Sr w (kcV L[i]) ks[i].2 := by
    intro n
    induction n with
    | zero => exact fun _ => ⟨[], rfl, fun i h => by simp at h⟩
    | succ n ih =>
      intro hn
      obtain ⟨L, e1, e2⟩ := ih (by omega)
      obtain ⟨g, o, vf, ea, a1, a2, a3⟩ := h3 n (by omega)
      have a4 := a3
      obtain ⟨af, cf, rfl, -⟩ := a3
      refine ⟨L ++ [(ks[n].1, af, ks[n].2.length, cf)], by simp [e1], fun i hi hi2 => ?_⟩
      by_cases hin : i < L.length
      · rw [List.getElem_append_left hin]
        exact e2 i hin hi2
      · have hie : i = L.length := by simp at hi; omega
        subst hie
        rw [List.getElem_append_right (Nat.le_refl _)]
        simp only [Nat.sub_self, List.getElem_cons_zero, e1]
        exact ⟨⟨g, o, ea, a1, a2⟩, trivial, a4⟩
  obtain ⟨L, e1, e2⟩ := hL ks.length (Nat.le_refl _)
  refine ⟨L, ⟨ao, c, by rw [e1], by omega, h2, fun i hi => (e2 i hi (by omega)).1⟩, e1, fun i hi hi2 => (e2 i hi hi2).2⟩
set_option maxHeartbeats 1000000 in
theorem clone_kl (v : Value) (l : List Kc) (w : World) (h : Kl w v l) (hn : l.length ≤ 1000000) :
    Calls Tryz.prog 31 #[v] w fun e w' => ∃ v', e = .returned v' ∧ w'.ownsRow w.heap.size 67 2 v' l.length (kz l) ∧ Below w.heap.size w w' := by
  obtain ⟨i0, hi, hz0, hz1, hz2⟩ := info_parts infoK
  have q22 : ∀ (w : World) (a : Option Addr) (n c n' c' : Nat), (binOp .eql 30 (.slice a n c) (.slice none n' c')).run Tryz.prog w = .ok (.bool a.isNone) w := fun w a n c n' c' => Lib.run_eql_slice_nil w _ _ a n c n' c' Tryz.underlying30
  obtain ⟨ao, c, rfl, h1, h2, h3⟩ := h
  cases ao with
  | none =>
    obtain rfl : l = [] := by
      cases l with
      | nil => rfl
      | cons x t =>
        obtain ⟨g, o, e, -⟩ := h3 0 (by simp)
        cases e
    clear h3
    go_enter Tryz.func31, Tryz.ntmps31
    go_wp2_with fail
    go_ret
    exact ⟨_, rfl, World.ownsRow_nil _ _ _ _, Below.refl _ _⟩
  | some ad =>
    have H : Hid (∀ j u, (kz l)[j]? = some u → (w.alloc (.cells #[] 67)).cell? (ad.add j) = some u) := fun j u hj => by
      have hj2 : j < l.length * 2 := by
        have := (List.getElem?_eq_some_iff.1 hj).1
        rwa [kz_len] at this
      obtain ⟨g', o', e3, z4, z5⟩ := h3 (j / 2) (by omega)
      obtain rfl := Option.some.inj e3
      obtain ⟨y1, y2⟩ := kz_at l (j / 2) (by omega)
      rw [add_at]
      rcases Nat.mod_two_eq_zero_or_one j with hm | hm
      · have hje : j / 2 * 2 = j := by omega
        rw [hje] at y1 z4
        rw [y1] at hj
        rw [← Option.some.inj hj]
        exact ((below_alloc w _).cell (p := ⟨g', o' + j, none⟩) (World.block_lt_of_cell? w _ z4)).trans z4
      · have hje : j / 2 * 2 + 1 = j := by omega
        rw [hje] at y2
        rw [show o' + j / 2 * 2 + 1 = o' + j by omega] at z5
        rw [y2] at hj
        rw [← Option.some.inj hj]
        exact ((below_alloc w _).cell (p := ⟨g', o' + j, none⟩) (World.block_lt_of_cell? w _ z5)).trans z5
    clear h3
    go_enter Tryz.func31, Tryz.ntmps31
    go_wp2_with (at_builtin; refine wpList_append_own_at _ rfl _ _ 30 rfl w.heap.size 67 i0 (.agg #[.string ⟨#[]⟩, .slice none 0 0]) 2 40 Tryz.underlying30 hi hz0 hz1 hz2 rfl (by decide) _ 0 [] rfl (World.ownsRow_lit w #[] 0 (Nat.le_refl _) (Nat.zero_le _) rfl) ad l.length c (kz l) rfl (by rw [kz_len]) H.out (kz_one l) (by unfold maxLen; omega) (by omega) (by simp) ?_)
    intro v' w' ho hg _ _
    obtain ⟨ao, c, rfl⟩ := own_len ho
    have HO := hide ho
    have HG := hide hg
    clear ho hg
    go_wp2_with fail
    go_ret
    refine ⟨_, rfl, ?_, (below_alloc w _).grown HG.out (by simp) (fun k e => ?_)⟩
    · have := HO.out
      simpa using this
    · simp [Value.ownBlock] at e
      omega
end Go.Proofs.YtfbhoemfabgjpaaGreat
