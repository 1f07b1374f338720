import Derived.Test.YtfkhhplcogedmaaGreatDoorMgN
import Derived.Test.YtfkhhplcogedmaaGreatDoorEnE
/-
  Verify: whether kinds may be (as proved for World).
-/
namespace Go.Proofs.YtfkhhplcogedmaaGreatDoor
open Go.RowKit
set_option maxRecDepth 100000
theorem info9 : (Tryz.prog.info? 9).map (fun i => (i.zero, i.size, i.bytes)) = some (some (.string ⟨#[]⟩), 1, 16) := by kernel_rfl
def sz (l : List ByteArray) : List Value := l.map Value.string
theorem sz_len (l : List ByteArray) : (sz l).length = l.length := by simp [sz]
theorem sz_one (l : List ByteArray) : ∀ u ∈ sz l, u.oneCell' = true := by
  intro u hu
  simp only [sz, List.mem_map] at hu
  obtain ⟨x, -, rfl⟩ := hu
  rfl
theorem sz_at (l : List ByteArray) (i : Nat) (h : i < l.length) : (sz l)[i]? = some (.string l[i]) := by simp [sz, h]
theorem Sr.own {w : World} {v : Value} {l : List ByteArray} {B : Nat} (h : w.ownsRow B 9 1 v l.length (sz l)) : Sr w v l := by
  rcases h.2 with ⟨rfl, hl⟩ | ⟨g, c, cur, rfl, -, hg, h1, h2, hcs, htake⟩
  · obtain rfl := List.eq_nil_of_length_eq_zero hl
    exact ⟨none, 0, rfl, Nat.le_refl _, Nat.zero_le _, fun j hj => absurd hj (by simp)⟩
  · refine ⟨_, c, rfl, h1, h2, fun j hj => ⟨g, 0, rfl, ?_⟩⟩
    rw [Nat.zero_add, h.cellAt j (by omega), sz_at l j hj]
set_option maxHeartbeats 1000000 in
theorem clone_texts (v : Value) (l : List ByteArray) (w : World) (h : Sr w v l) (hn : l.length ≤ 1000000) :
    Calls Tryz.prog 66 #[v] w fun e w' => ∃ v', e = .returned v' ∧ w'.ownsRow w.heap.size 9 1 v' l.length (sz l) ∧ Below w.heap.size w w' := by
  obtain ⟨i0, hi, hz0, hz1, hz2⟩ := info_parts info9
  have q41 : ∀ (w : World) (a : Option Addr) (n c n' c' : Nat), (binOp .eql 61 (.slice a n c) (.slice none n' c')).run Tryz.prog w = .ok (.bool a.isNone) w := fun w a n c n' c' => Lib.run_eql_slice_nil w _ _ a n c n' c' Tryz.underlying61
  obtain ⟨ao, c, rfl, h1, h2, h3⟩ := h
  cases ao with
  | none =>
    obtain rfl : l = [] := by
      cases l with
      | nil => rfl
      | cons x t =>
        obtain ⟨g, o, e, -⟩ := h3 0 (by simp)
        cases e
    clear h3
    go_enter Tryz.func66, Tryz.ntmps66
    go_wp2_with fail
    go_ret
    exact ⟨_, rfl, World.ownsRow_nil _ _ _ _, Below.refl _ _⟩
  | some ad =>
    have H : Hid (∀ j u, (sz l)[j]? = some u → (w.alloc (.cells #[] 9)).cell? (ad.add j) = some u) := fun j u hj => by
      have hj2 : j < l.length := by
        have := (List.getElem?_eq_some_iff.1 hj).1
        rwa [sz_len] at this
      rw [sz_at l j hj2] at hj
      obtain ⟨g', o', e3, z4⟩ := h3 j hj2
      obtain rfl := Option.some.inj e3
      rw [show (⟨g', o', none⟩ : Addr).add j = ⟨g', o' + j, none⟩ by simp [Addr.add], ← Option.some.inj hj]
      exact ((below_alloc w _).cell (p := ⟨g', o' + j, none⟩) (World.block_lt_of_cell? w _ z4)).trans z4
    clear h3
    go_enter Tryz.func66, Tryz.ntmps66
    go_wp2_with (at_builtin; refine wpList_append_own_at _ rfl _ _ 61 rfl w.heap.size 9 i0 (.string ⟨#[]⟩) 1 16 Tryz.underlying61 hi hz0 hz1 hz2 rfl (by decide) _ 0 [] rfl (World.ownsRow_lit w #[] 0 (Nat.le_refl _) (Nat.zero_le _) rfl) ad l.length c (sz l) rfl (by rw [sz_len]; omega) H.out (sz_one l) (by unfold maxLen; omega) (by omega) (by simp) ?_)
    intro v' w' ho hg _ _
    obtain ⟨ao, c, rfl⟩ := own_len ho
    have HO := hide ho
    have HG := hide hg
    clear ho hg
    go_wp2_with fail
    go_ret
    refine ⟨_, rfl, ?_, (below_alloc w _).grown HG.out (by simp) (fun k e => ?_)⟩
    · have := HO.out
      simpa using this
    · simp [Value.ownBlock] at e
      omega
def fieldsOk (k : Kind) : Prop := k.2.length ≤ 4 ∧ areW k.2
def mayB (ks : List Kind) : Prop := 1 ≤ ks.length ∧ ks.length ≤ 12 ∧ (∀ k ∈ ks, fieldsOk k) ∧ areW (ks.map (·.1))
theorem sz_append (a b : List ByteArray) : sz (a ++ b) = sz a ++ sz b := by simp [sz]
theorem names_push (ks : List Kind) (i : Nat) (hi : i < ks.length) : (ks.take (i + 1)).map (·.1) = (ks.take i).map (·.1) ++ [ks[i].1] := by
  rw [List.take_succ_eq_append_getElem hi, List.map_append]
  rfl
set_option maxHeartbeats 4000000 in
theorem maybe_any {w : World} {v : Value} {ks : List Kind} (h : Kr w v ks) : Calls Tryz.prog 38 #[v] w fun e w' => (∃ b : Bool, e = .returned (.bool b) ∧ (b = true ↔ mayB ks)) ∧ Below w.heap.size w w' := by
  obtain ⟨i0, hi0, hz0, hz1, hz2⟩ := info_parts info9
  have HK := hide h
  obtain ⟨ao, c, rfl, h1, h2, h3⟩ := h
  have hbig : c ≤ 9223372036854775807 := by unfold maxLen at h2; omega
  clear h3 h2
  by_cases g1 : (ks.length : Int) < 1
  · have HN : Hid (¬ mayB ks) := fun h => by have := h.1; omega
    go_enter Tryz.func38, Tryz.ntmps38
    go_wp2_with fail
    go_ret
    first | exact ⟨.inl ⟨rfl, HN.out⟩, Below.refl _ _⟩ | exact ⟨⟨_, rfl, ⟨fun e => (by cases e), fun e => absurd e HN.out⟩⟩, Below.refl _ _⟩
  · by_cases g2 : (ks.length : Int) > 12
    · have HN : Hid (¬ mayB ks) := fun h => by have := h.2.1; omega
      go_enter Tryz.func38, Tryz.ntmps38
      go_wp2_with fail
      go_ret
      first | exact ⟨.inl ⟨rfl, HN.out⟩, Below.refl _ _⟩ | exact ⟨⟨_, rfl, ⟨fun e => (by cases e), fun e => absurd e HN.out⟩⟩, Below.refl _ _⟩
    · go_enter Tryz.func38, Tryz.ntmps38
      go_wp2_with fail
      go_loopw [3, 16] (fun v3 v16 W => ∃ i : Nat, i ≤ ks.length ∧ v16 = .int .i64 (i : Int) ∧ Hid (∀ k ∈ ks.take i, fieldsOk k) ∧ Hid (W.ownsRow w.heap.size 9 1 v3 ((ks.take i).map (·.1)).length (sz ((ks.take i).map (·.1)))) ∧ Hid (Below w.heap.size w W)) (fun _ v16 _ => ks.length - (intOf v16).toNat)
      case atStart => exact ⟨0, Nat.zero_le _, rfl, fun k hk => by simp at hk, World.ownsRow_nil _ _ _ _, Below.refl _ _⟩
      case round =>
        obtain ⟨i, hil, rfl, HA, HO, HB⟩ := hrel
        by_cases hlt : i < ks.length
        · have t1 : (i : Int) < (ks.length : Int) := by omega
          obtain ⟨ao', c', e', -, -, h3⟩ := HK.out.later HB.out
          simp only [Value.slice.injEq, true_and] at e'
          obtain ⟨rfl, rfl⟩ := e'
          obtain ⟨g, o, vf, rfl, e1, e2, e3⟩ := h3 i hlt
          have hnp := hide (names_push ks i hlt)
          have HNO : Hid (¬ fieldsOk ks[i] → ¬ mayB ks) := fun h e => h (e.2.2.1 _ (List.getElem_mem hlt))
          have HOK : Hid (fieldsOk ks[i] → ∀ k ∈ ks.take (i + 1), fieldsOk k) := fun h k hk => by
            rw [List.take_succ_eq_append_getElem hlt, List.mem_append, List.mem_singleton] at hk
            rcases hk with hk | rfl
            · exact HA.out k hk
            · exact h
          have hnl : ((ks.take i).map (·.1)).length ≤ 12 := by rw [List.length_map, List.length_take]; omega
          generalize (ks.take i).map (·.1) = N at *
          generalize ks[i] = kd at *
          obtain ⟨nm, fs⟩ := kd
          have E3 := hide e3
          obtain ⟨af, cf, rfl, -⟩ := e3
          obtain ⟨a3, c3, rfl⟩ := own_len HO.out
          dsimp only at e1 e2
          have hsz := HB.out.size
          have B5 : Hid (Below wr.heap.size wr (wr.alloc (.cells #[.string nm, .slice af fs.length cf] 63))) := below_alloc wr _
          have JA := hide (arewords_any (w := wr.alloc (.cells #[.string nm, .slice af fs.length cf] 63)) (E3.out.on (fun a x e => (B5.out.cell (p := a) (World.block_lt_of_cell? wr _ e)).trans e)))
          clear h3 E3
          by_cases g4 : (fs.length : Int) > 4
          · have HN := hide (HNO.out (fun e => by have := e.1; dsimp only at this; omega))
            clear HNO HOK JA
            go_wp2_with fail
            go_ret
            first | exact ⟨.inl ⟨rfl, HN.out⟩, below_on HB.out B5.out⟩ | exact ⟨⟨_, rfl, ⟨fun e => (by cases e), fun e => absurd e HN.out⟩⟩, below_on HB.out B5.out⟩
          · by_cases hW : areW fs
            · have JA1 : Hid (Calls Tryz.prog 64 #[.slice af fs.length cf] (wr.alloc (.cells #[.string nm, .slice af fs.length cf] 63)) fun e w' => e = .returned (.bool true) ∧ w' = wr.alloc (.cells #[.string nm, .slice af fs.length cf] 63)) := JA.out.mono (fun _e _w' ⟨⟨b, k1, k2⟩, k3⟩ => ⟨by rw [k1, k2.2 hW], k3⟩)
              have HY := hide (HOK.out ⟨by dsimp only; omega, hW⟩)
              have HX : Hid (∀ (v' : Value) (w' : World), w'.ownsRow w.heap.size 9 1 v' (N.length + 1) (sz N ++ [.string nm]) → ((wr.alloc (.cells #[.string nm, .slice af fs.length cf] 63)).alloc (.cells #[.string nm] 9)).grownBy w' (Value.slice a3 N.length c3).ownBlock → w'.ownsRow w.heap.size 9 1 v' ((ks.take (i + 1)).map (·.1)).length (sz ((ks.take (i + 1)).map (·.1))) ∧ Below w.heap.size w w') := fun v' w' k1 k2 => by
                refine ⟨?_, (below_on (below_on HB.out B5.out) (below_alloc _ _)).grown k2 (by simp; omega) (fun k e => (HO.out.lt k e).1)⟩
                rw [hnp.out, List.length_append, sz_append]
                exact k1
              clear JA HOK HNO hW hnp
              go_wp2_with (first | (go_at_call 64; refine JA1.out.mono ?_; rintro e w' ⟨rfl, rfl⟩) | (at_builtin; refine wpList_append_own_at _ rfl _ _ 61 rfl w.heap.size 9 i0 (.string ⟨#[]⟩) 1 16 Tryz.underlying61 hi0 hz0 hz1 hz2 rfl (by decide) _ N.length (sz N) rfl ((HO.out.alloc _).alloc _) ⟨wr.heap.size + 1, 0, none⟩ 1 1 [.string nm] rfl rfl ?c1 ?c2 (by unfold maxLen; omega) (by omega) ?c5 ?_))
              case c1 =>
                intro j u hj
                match j, hj with
                | 0, hj => simp at hj; subst hj; simp [Addr.add]
              case c2 =>
                intro u hu
                simp at hu
                subst hu
                rfl
              case c5 => simp; omega
              intro v' w' k1 k2 _ _
              obtain ⟨r1, r2⟩ := HX.out v' w' k1 k2
              have R1 := hide r1
              have R2 := hide r2
              clear k1 k2 r1 r2 HX
              go_wp2_with fail
              go_roundw
              case rel => exact ⟨i + 1, by omega, by go_num, HY, R1, R2⟩
              case measure => simp [intOf]; omega
            · have JA1 : Hid (Calls Tryz.prog 64 #[.slice af fs.length cf] (wr.alloc (.cells #[.string nm, .slice af fs.length cf] 63)) fun e w' => e = .returned (.bool false) ∧ w' = wr.alloc (.cells #[.string nm, .slice af fs.length cf] 63)) := JA.out.mono (fun _e _w' ⟨⟨b, k1, k2⟩, k3⟩ => ⟨by rw [k1]; cases b with
                | true => exact absurd (k2.1 rfl) hW
                | false => rfl, k3⟩)
              have HN := hide (HNO.out (fun e => hW e.2))
              clear HNO HOK JA hW
              go_wp2_with fail
              refine JA1.out.mono ?_
              rintro e w' ⟨rfl, rfl⟩
              go_wp2_with fail
              go_ret
              first | exact ⟨.inl ⟨rfl, HN.out⟩, below_on HB.out B5.out⟩ | exact ⟨⟨_, rfl, ⟨fun e => (by cases e), fun e => absurd e HN.out⟩⟩, below_on HB.out B5.out⟩
        · obtain rfl : i = ks.length := by omega
          have t1 : ¬ (ks.length : Int) < (ks.length : Int) := by omega
          have ho := HO.out
          have ha := HA.out
          rw [List.take_length] at ho ha
          have JA := hide (arewords_any (Sr.own ho))
          have HM : Hid (areW (ks.map (·.1)) ↔ mayB ks) := ⟨fun e => ⟨by omega, by omega, ha, e⟩, fun e => e.2.2.2⟩
          obtain ⟨a3, c3, rfl⟩ := own_len ho
          clear ho ha HO HA
          generalize (ks.map (·.1)).length = nn at *
          go_wp2_with fail
          refine JA.out.mono ?_
          rintro e w' ⟨⟨b, rfl, hb⟩, rfl⟩
          have HBB := hide (hb.trans HM.out)
          clear hb JA HM
          go_wp2_with fail
          go_ret
          exact ⟨⟨b, rfl, HBB.out⟩, HB.out⟩
end Go.Proofs.YtfkhhplcogedmaaGreatDoor

/-
  Verify: kinds that are copied (as proved for World).
-/
namespace Go.Proofs.YtfkhhplcogedmaaGreatDoor
open Go.RowKit
set_option maxRecDepth 100000
theorem infoK : (Tryz.prog.info? 63).map (fun i => (i.zero, i.size, i.bytes)) = some (some (.agg #[.string ⟨#[]⟩, .slice none 0 0]), 2, 40) := by kernel_rfl
abbrev Kc := ByteArray × Option Addr × Nat × Nat
def kcV (p : Kc) : Value := .slice p.2.1 p.2.2.1 p.2.2.2
def kz : List Kc → List Value
  | [] => []
  | p :: l => .string p.1 :: .slice p.2.1 p.2.2.1 p.2.2.2 :: kz l
theorem kz_len : ∀ l : List Kc, (kz l).length = l.length * 2
  | [] => rfl
  | p :: t => by simp [kz, kz_len t]; omega
theorem kz_at : ∀ (l : List Kc) (i : Nat) (h : i < l.length), (kz l)[i * 2]? = some (.string l[i].1) ∧ (kz l)[i * 2 + 1]? = some (kcV l[i])
  | p :: t, 0, _ => ⟨rfl, rfl⟩
  | p :: t, i + 1, h => by
    have := kz_at t i (by simpa using h)
    rw [show (i + 1) * 2 = i * 2 + 1 + 1 by omega]
    simpa [kz] using this
theorem kz_set : ∀ (l : List Kc) (i : Nat) (x : Option Addr × Nat × Nat) (_h : i < l.length), (kz l).set (i * 2 + 1) (.slice x.1 x.2.1 x.2.2) = kz (l.set i (l[i].1, x))
  | p :: t, 0, x, _ => rfl
  | p :: t, i + 1, x, h => by
    have := kz_set t i x (by simpa using h)
    rw [show (i + 1) * 2 = i * 2 + 1 + 1 by omega]
    simpa [kz] using this
theorem kz_one : ∀ l : List Kc, ∀ u ∈ kz l, u.oneCell' = true
  | [], _, h => by cases h
  | p :: t, v, h => by
    simp only [kz, List.mem_cons] at h
    rcases h with rfl | rfl | h
    · rfl
    · rfl
    · exact kz_one t v h
/-- Kinds as they lie: names, and where the fields are. -/
def Kl (w : World) (v : Value) (L : List Kc) : Prop :=
  ∃ ao c, v = .slice ao L.length c ∧ L.length ≤ c ∧ c ≤ maxLen ∧ ∀ i (hi : i < L.length), ∃ g o, ao = some ⟨g, o, none⟩ ∧ w.cell? ⟨g, o + i * 2, none⟩ = some (.string L[i].1) ∧ w.cell? ⟨g, o + i * 2 + 1, none⟩ = some (kcV L[i])
theorem Kr.kl {w : World} {v : Value} {ks : List Kind} (h : Kr w v ks) : ∃ L, Kl w v L ∧ L.length = ks.length ∧ ∀ i (h1 : i < L.length) (h2 : i < ks.length), L[i].1 = ks[i].1 ∧ Sr w (kcV L[i]) ks[i].2 := by
  obtain ⟨ao, c, rfl, h1, h2, h3⟩ := h
  have hL : ∀ n, n ≤ ks.length → ∃ L : List Kc, L.length = n ∧ ∀ i (h1 : i < L.length) (h2 : i < ks.length), (∃ g o, ao = some ⟨g, o, none⟩ ∧ w.cell? ⟨g, o + i * 2, none⟩ = some (.string L[i].1) ∧ w.cell? ⟨g, o + i * 2 + 1, none⟩ = some (kcV L[i])) ∧ L[i].1 = ks[i].1 ∧ Sr w (kcV L[i]) ks[i].2 := by
    intro n
    induction n with
    | zero => exact fun _ => ⟨[], rfl, fun i h => by simp at h⟩
    | succ n ih =>
      intro hn
      obtain ⟨L, e1, e2⟩ := ih (by omega)
      obtain ⟨g, o, vf, ea, a1, a2, a3⟩ := h3 n (by omega)
      have a4 := a3
      obtain ⟨af, cf, rfl, -⟩ := a3
      refine ⟨L ++ [(ks[n].1, af, ks[n].2.length, cf)], by simp [e1], fun i hi hi2 => ?_⟩
      by_cases hin : i < L.length
      · rw [List.getElem_append_left hin]
        exact e2 i hin hi2
      · have hie : i = L.length := by simp at hi; omega
        subst hie
        rw [List.getElem_append_right (Nat.le_refl _)]
        simp only [Nat.sub_self, List.getElem_cons_zero, e1]
        exact ⟨⟨g, o, ea, a1, a2⟩, trivial, a4⟩
  obtain ⟨L, e1, e2⟩ := hL ks.length (Nat.le_refl _)
  refine ⟨L, ⟨ao, c, by rw [e1], by omega, h2, fun i hi => (e2 i hi (by omega)).1⟩, e1, fun i hi hi2 => (e2 i hi hi2).2⟩
set_option maxHeartbeats 1000000 in
theorem clone_kl (v : Value) (l : List Kc) (w : World) (h : Kl w v l) (hn : l.length ≤ 1000000) :
    Calls Tryz.prog 65 #[v] w fun e w' => ∃ v', e = .returned v' ∧ w'.ownsRow w.heap.size 63 2 v' l.length (kz l) ∧ Below w.heap.size w w' := by
  obtain ⟨i0, hi, hz0, hz1, hz2⟩ := info_parts infoK
  have q22 : ∀ (w : World) (a : Option Addr) (n c n' c' : Nat), (binOp .eql 26 (.slice a n c) (.slice none n' c')).run Tryz.prog w = .ok (.bool a.isNone) w := fun w a n c n' c' => Lib.run_eql_slice_nil w _ _ a n c n' c' Tryz.underlying26
  obtain ⟨ao, c, rfl, h1, h2, h3⟩ := h
  cases ao with
  | none =>
    obtain rfl : l = [] := by
      cases l with
      | nil => rfl
      | cons x t =>
        obtain ⟨g, o, e, -⟩ := h3 0 (by simp)
        cases e
    clear h3
    go_enter Tryz.func65, Tryz.ntmps65
    go_wp2_with fail
    go_ret
    exact ⟨_, rfl, World.ownsRow_nil _ _ _ _, Below.refl _ _⟩
  | some ad =>
    have H : Hid (∀ j u, (kz l)[j]? = some u → (w.alloc (.cells #[] 63)).cell? (ad.add j) = some u) := fun j u hj => by
      have hj2 : j < l.length * 2 := by
        have := (List.getElem?_eq_some_iff.1 hj).1
        rwa [kz_len] at this
      obtain ⟨g', o', e3, z4, z5⟩ := h3 (j / 2) (by omega)
      obtain rfl := Option.some.inj e3
      obtain ⟨y1, y2⟩ := kz_at l (j / 2) (by omega)
      rw [show (⟨g', o', none⟩ : Addr).add j = ⟨g', o' + j, none⟩ by simp [Addr.add]]
      rcases Nat.mod_two_eq_zero_or_one j with hm | hm
      · have hje : j / 2 * 2 = j := by omega
        rw [hje] at y1 z4
        rw [y1] at hj
        rw [← Option.some.inj hj]
        exact ((below_alloc w _).cell (p := ⟨g', o' + j, none⟩) (World.block_lt_of_cell? w _ z4)).trans z4
      · have hje : j / 2 * 2 + 1 = j := by omega
        rw [hje] at y2
        rw [show o' + j / 2 * 2 + 1 = o' + j by omega] at z5
        rw [y2] at hj
        rw [← Option.some.inj hj]
        exact ((below_alloc w _).cell (p := ⟨g', o' + j, none⟩) (World.block_lt_of_cell? w _ z5)).trans z5
    clear h3
    go_enter Tryz.func65, Tryz.ntmps65
    go_wp2_with (at_builtin; refine wpList_append_own_at _ rfl _ _ 26 rfl w.heap.size 63 i0 (.agg #[.string ⟨#[]⟩, .slice none 0 0]) 2 40 Tryz.underlying26 hi hz0 hz1 hz2 rfl (by decide) _ 0 [] rfl (World.ownsRow_lit w #[] 0 (Nat.le_refl _) (Nat.zero_le _) rfl) ad l.length c (kz l) rfl (by rw [kz_len]) H.out (kz_one l) (by unfold maxLen; omega) (by omega) (by simp) ?_)
    intro v' w' ho hg _ _
    obtain ⟨ao, c, rfl⟩ := own_len ho
    have HO := hide ho
    have HG := hide hg
    clear ho hg
    go_wp2_with fail
    go_ret
    refine ⟨_, rfl, ?_, (below_alloc w _).grown HG.out (by simp) (fun k e => ?_)⟩
    · have := HO.out
      simpa using this
    · simp [Value.ownBlock] at e
      omega
/-- The clone under way: behind i rounds. -/
def Ck (w w1 W : World) (v : Value) (ks : List Kind) (L : List Kc) (i : Nat) : Prop :=
  L.length = ks.length ∧ (∀ j (h1 : j < L.length) (h2 : j < ks.length), L[j].1 = ks[j].1 ∧ (j < i → W.ownsRow w1.heap.size 9 1 (kcV L[j]) ks[j].2.length (sz ks[j].2))) ∧ W.ownsRow w.heap.size 63 2 v ks.length (kz L) ∧ Below w.heap.size w W ∧ w1.heap.size ≤ W.heap.size ∧ w.heap.size ≤ w1.heap.size ∧ ∀ k, v.ownBlock = some k → k < w1.heap.size
theorem Ck.turn {w w1 W W2 : World} {g c : Nat} {ks : List Kind} {L : List Kc} {i : Nat} (h : Ck w w1 W (.slice (some ⟨g, 0, none⟩) ks.length c) ks L i) (hi : i < ks.length) (hb : Below W.heap.size W W2) {a2 : Option Addr} {n2 c2 : Nat} (ho : W2.ownsRow W.heap.size 9 1 (.slice a2 n2 c2) ks[i].2.length (sz ks[i].2)) :
    (W2.cell? ⟨g, i * 2 + 1, none⟩ = some (kcV (L[i]'(by rw [h.1]; exact hi))) ∧ W2.frozen? ⟨g, i * 2 + 1, none⟩ = false) ∧ ∃ L', Ck w w1 (W2.setCell ⟨g, i * 2 + 1, none⟩ (.slice a2 n2 c2)) (.slice (some ⟨g, 0, none⟩) ks.length c) ks L' (i + 1) := by
  obtain ⟨h1, h2, h3, h4, h5, h6, h7⟩ := h
  have hL : i < L.length := by omega
  have h3' := own_later h3 hb
  have hg := h7 g rfl
  refine ⟨⟨by rw [h3'.cellAt (i * 2 + 1) (by omega)]; exact (kz_at L i hL).2, h3'.frozenAt _⟩, L.set i (L[i].1, a2, n2, c2), by rw [List.length_set]; exact h1, fun j j1 j2 => ?_, ?_, ?_, ?_, h6, h7⟩
  · rw [List.length_set] at j1
    obtain ⟨k1, k2⟩ := h2 j j1 j2
    by_cases e : i = j
    · subst e
      rw [List.getElem_set_self]
      refine ⟨k1, fun _ => own_set (own_lower ho h5) (fun e' => ?_)⟩
      have := (ho.lt g e').1
      omega
    · rw [List.getElem_set_ne e]
      refine ⟨k1, fun hj => own_set (own_later (k2 (by omega)) hb) (fun e' => ?_)⟩
      have := ((k2 (by omega)).lt g e').1
      omega
  · have := (h3'.stored (i * 2 + 1) (.slice a2 n2 c2)).1
    rw [show (Value.slice a2 n2 c2) = .slice (a2, n2, c2).1 (a2, n2, c2).2.1 (a2, n2, c2).2.2 from rfl, kz_set L i (a2, n2, c2) hL] at this
    exact this
  · have := (h3.lt g rfl).1
    exact (below_on h4 hb).grown (grown_set _ _ _ _) (by have := hb.size; have := h4.size; omega) (fun k e => by cases e; omega)
  · have := (grown_set W2 g (i * 2 + 1) (.slice a2 n2 c2)).size
    have := hb.size
    omega
/-- Kinds in memory of their own. -/
def Ko (B : Nat) (w : World) (v : Value) (ks : List Kind) : Prop := ∃ L, w.ownsRow B 63 2 v ks.length (kz L) ∧ L.length = ks.length ∧ ∀ i (h1 : i < L.length) (h2 : i < ks.length), L[i].1 = ks[i].1 ∧ w.ownsRow B 9 1 (kcV L[i]) ks[i].2.length (sz ks[i].2)
theorem Ck.fin {w w1 W : World} {v : Value} {ks : List Kind} {L : List Kc} (h : Ck w w1 W v ks L ks.length) : Ko w.heap.size W v ks ∧ Below w.heap.size w W := by
  obtain ⟨h1, h2, h3, h4, h5, h6, h7⟩ := h
  exact ⟨⟨L, h3, h1, fun i i1 i2 => ⟨(h2 i i1 i2).1, own_lower ((h2 i i1 i2).2 i2) h6⟩⟩, h4⟩
theorem Ko.kr {B : Nat} {w : World} {v : Value} {ks : List Kind} (h : Ko B w v ks) : Kr w v ks := by
  obtain ⟨L, h1, h2, h3⟩ := h
  rcases h1.2 with ⟨rfl, hl⟩ | ⟨g, c, cur, rfl, -, hg, e1, e2, hcs, htake⟩
  · have : ks.length = 0 := hl
    exact ⟨none, 0, by rw [this], by omega, Nat.zero_le _, fun j hj => absurd hj (by omega)⟩
  · refine ⟨_, c, rfl, e1, e2, fun i hi => ⟨g, 0, kcV (L[i]'(by omega)), rfl, ?_, ?_, ?_⟩⟩
    · rw [Nat.zero_add, h1.cellAt (i * 2) (by omega), (kz_at L i (by omega)).1, (h3 i (by omega) hi).1]
    · rw [Nat.zero_add, h1.cellAt (i * 2 + 1) (by omega), (kz_at L i (by omega)).2]
    · exact Sr.own (h3 i (by omega) hi).2
theorem Ko.same {B : Nat} {w w' : World} {v : Value} {ks : List Kind} (h : Ko B w v ks) (hs : ∀ k, B ≤ k → k < w.heap.size → w'.heap[k]? = w.heap[k]?) : Ko B w' v ks := by
  have key : ∀ {e s n : Nat} {v : Value} {xs : List Value}, w.ownsRow B e s v n xs → w'.ownsRow B e s v n xs := fun {e s n v xs} hr => by
    have hlt := hr.lt
    obtain ⟨a1, a2⟩ := hr
    refine ⟨a1, ?_⟩
    rcases a2 with a2 | ⟨g, c, cur, rfl, b1, b2, b3⟩
    · exact .inl a2
    · have := hlt g rfl
      exact .inr ⟨g, c, cur, rfl, b1, (hs g this.1 this.2).trans b2, b3⟩
  obtain ⟨L, h1, h2, h3⟩ := h
  exact ⟨L, key h1, h2, fun i i1 i2 => ⟨(h3 i i1 i2).1, key (h3 i i1 i2).2⟩⟩
set_option maxHeartbeats 4000000 in
theorem clone_kinds {w : World} {v : Value} {ks : List Kind} (h : Kr w v ks) (hn : ks.length ≤ 1000) (hf : ∀ k ∈ ks, k.2.length ≤ 1000) :
    Calls Tryz.prog 40 #[v] w fun e w' => ∃ v', e = .returned v' ∧ Ko w.heap.size w' v' ks ∧ Below w.heap.size w w' := by
  have HK := hide h
  obtain ⟨L0, hkl, hlen, hsr⟩ := h.kl
  have JC := hide (clone_kl v L0 w hkl (by omega))
  have HN : Hid (L0.length = ks.length) := hlen
  have HR : Hid (∀ i (h1 : i < L0.length) (h2 : i < ks.length), L0[i].1 = ks[i].1) := fun i h1 h2 => (hsr i h1 h2).1
  clear hsr hkl
  obtain ⟨ao, c, rfl, h1, h2, h3⟩ := h
  have hbig : c ≤ 9223372036854775807 := by unfold maxLen at h2; omega
  have HF := hide hf
  clear h3 h2 hf hlen
  go_enter Tryz.func40, Tryz.ntmps40
  go_wp2_with fail
  refine JC.out.mono ?_
  rintro e w1 ⟨v', rfl, ho, hb⟩
  rw [HN.out] at ho
  have hlt := ho.lt
  have hbs := hb.size
  obtain ⟨a', c', rfl⟩ := own_len ho
  have H0 : Hid (∃ L, Ck w w1 w1 (.slice a' ks.length c') ks L 0) := ⟨L0, HN.out, fun j j1 j2 => ⟨HR.out j j1 j2, fun e => absurd e (by omega)⟩, ho, hb, Nat.le_refl _, hb.size, fun k e => (hlt k e).2⟩
  have hc' := (own_cap ho)
  clear ho hlt HR JC hb HN
  go_wp2_with fail
  go_loopw [10] (fun v10 W => ∃ i : Nat, i ≤ ks.length ∧ v10 = .int .i64 (i : Int) ∧ Hid (∃ L, Ck w w1 W (.slice a' ks.length c') ks L i)) (fun v10 _ => ks.length - (intOf v10).toNat)
  case atStart => exact ⟨0, Nat.zero_le _, rfl, H0⟩
  case round =>
    obtain ⟨i, hil, rfl, HC⟩ := hrel
    by_cases hlt : i < ks.length
    · have t1 : (i : Int) < (ks.length : Int) := by omega
      have t2 : (0 : Int) ≤ (i : Int) := by omega
      obtain ⟨L, hC⟩ := HC.out
      obtain ⟨ao2, c2, e2, -, -, h3⟩ := HK.out.later hC.2.2.2.1
      simp only [Value.slice.injEq, true_and] at e2
      obtain ⟨rfl, rfl⟩ := e2
      obtain ⟨g, o, vf, rfl, y1, y2, y3⟩ := h3 i hlt
      obtain ⟨g', c3, e3, -, -⟩ := own_form hC.2.2.1 (by omega)
      simp only [Value.slice.injEq, true_and] at e3
      obtain ⟨rfl, rfl⟩ := e3
      have hfl := HF.out _ (List.getElem_mem hlt)
      have HT : Hid (∀ (W2 : World), Below (wr.alloc (.cells #[.string ks[i].1, vf] 63)).heap.size (wr.alloc (.cells #[.string ks[i].1, vf] 63)) W2 → ∀ a2 n2 c2, W2.ownsRow (wr.alloc (.cells #[.string ks[i].1, vf] 63)).heap.size 9 1 (.slice a2 n2 c2) ks[i].2.length (sz ks[i].2) → (W2.cell? ⟨g', i * 2 + 1, none⟩ = some (kcV (L[i]'(by rw [hC.1]; exact hlt))) ∧ W2.frozen? ⟨g', i * 2 + 1, none⟩ = false) ∧ ∃ L', Ck w w1 (W2.setCell ⟨g', i * 2 + 1, none⟩ (.slice a2 n2 c2)) (.slice (some ⟨g', 0, none⟩) ks.length c') ks L' (i + 1)) := fun W2 hb2 a2 n2 c2 ho => hC.turn hlt (below_on (below_alloc wr _) hb2) (own_lower ho (by simp))
      have JT : Hid (Calls Tryz.prog 66 #[vf] (wr.alloc (.cells #[.string ks[i].1, vf] 63)) fun e w' => ∃ v', e = .returned v' ∧ w'.ownsRow (wr.alloc (.cells #[.string ks[i].1, vf] 63)).heap.size 9 1 v' ks[i].2.length (sz ks[i].2) ∧ Below (wr.alloc (.cells #[.string ks[i].1, vf] 63)).heap.size (wr.alloc (.cells #[.string ks[i].1, vf] 63)) w') := clone_texts vf _ _ (y3.on (fun a x e => ((below_alloc wr _).cell (p := a) (World.block_lt_of_cell? wr _ e)).trans e)) (by omega)
      generalize L[i]'(by rw [hC.1]; exact hlt) = li at *
      clear hC HC h3 hfl
      generalize ks[i] = kd at *
      obtain ⟨nm, fs⟩ := kd
      obtain ⟨af, cf, rfl, -⟩ := y3
      dsimp only at y1 y2 HT JT
      go_wp2_with fail
      refine JT.out.mono ?_
      rintro e w2 ⟨v2, rfl, ho2, hb2⟩
      obtain ⟨a2, c2, rfl⟩ := own_len ho2
      obtain ⟨⟨z1, z2⟩, hz⟩ := HT.out w2 hb2 _ _ _ ho2
      have HZ := hide hz
      clear hz HT JT ho2 hb2
      go_wp2_with fail
      go_roundw
      case rel => exact ⟨i + 1, by omega, by go_num, HZ⟩
      case measure => simp [intOf]; omega
    · obtain rfl : i = ks.length := by omega
      have t1 : ¬ (ks.length : Int) < (ks.length : Int) := by omega
      obtain ⟨L, hC⟩ := HC.out
      have HE := hide hC.fin
      clear hC HC
      go_wp2_with fail
      go_ret
      exact ⟨_, rfl, HE.out.1, HE.out.2⟩

end Go.Proofs.YtfkhhplcogedmaaGreatDoor
