/-
  IdsNever's walk: the whole.
-/
import Derived.Test.YteieieepnfidaaaNevB
import Derived.Test.YteieieepnfidaaaNevC
namespace Go.Proofs.Yteieieepnfidaaa
open Go.RowKit
set_option maxHeartbeats 100000000 in
set_option maxRecDepth 100000 in
theorem never_walk (most : Int) (va : Value) (A : List Int) (w : World) (ha : Is w va A) (hA : ∀ x ∈ A, -9223372036854775808 ≤ x ∧ x ≤ 9223372036854775807) (h0 : -9223372036854775808 ≤ most) (h1 : most ≤ 9223372036854775807) :
    Calls Try.prog 4 #[.int .i64 most, va] w fun e w' => e = .returned (.bool true) ∧ Below w.heap.size w w' := by
  have HI := hide ha
  have HA := hide hA
  obtain ⟨aoa, ca, rfl, ha1, ha2, -⟩ := ha
  unfold maxLen at ha2
  have HSH := hide (shown_any w)
  obtain ⟨p, hp⟩ : ∃ p, p = pk most 12 := ⟨_, rfl⟩
  have hpl : p < 12 := hp ▸ pk_lt most (by omega)
  have HPK : Hid (∀ w : World, Calls Try.prog 11 #[.int .i64 most, .int .i64 12] w fun e w' => e = .returned (.int .i64 (p : Int)) ∧ w' = w) := fun w => by
    rw [hp]
    exact pick_any most 12 w h0 h1 (by omega) (by omega)
  clear hA hp
  go_enter Try.func4, Try.ntmps4
  go_wp2_with fail
  refine HSH.out.mono ?_
  rintro e w1 ⟨rfl, be1⟩
  have BE1 := hide be1
  clear be1 HSH
  go_wp2_with fail
  refine (HPK.out w1).mono ?_
  rintro e w2 ⟨rfl, rfl⟩
  obtain ⟨n, hn⟩ : ∃ n : Nat, (n : Int) = 1 + (p : Int) := ⟨1 + p, by omega⟩
  have hn1 : 1 ≤ n := by omega
  have hn2 : n ≤ 12 := by omega
  have hw : IntKind.i64.wrap (1 + (p : Int)) = (n : Int) := by rw [IntKind.wrap_i64]; omega
  have HNW := hide (new_any n w2 hn1 (by omega))
  clear HPK hn hpl
  go_wp2_with fail
  refine HNW.out.mono ?_
  rintro e w3 ⟨rfl, hp3, hb3⟩
  have HV : Hid (∃ gs fr alive all, Inv w.heap.size n 0 (.slice none 0 0) (.slice none 0 0) w2.heap.size gs fr alive all w3) := by
    have hs1 := BE1.out.size
    have hs3 := hb3.size
    refine ⟨[], [], [], [], ⟨_, hp3, fun k e => ⟨by omega, ?_, ?_⟩, fun k e => ?_, by omega⟩, Ew.nil _, Ew.nil _, fun k e => ?_, fun k e => ?_, by simp, by simp, fun p => by simp [Lx, lvOf], by simp, by simp⟩
    · obtain ⟨⟨_, _, _, h, _⟩, _⟩ := hp3
      have := h.lt
      omega
    · simp [N2, Value.ownBlock]
    · simp [N2, Value.ownBlock] at e
    · simp [Value.ownBlock] at e
    · simp [N2, Value.ownBlock] at e
  have BE3 := hide (BE1.out.trans (hb3.mono BE1.out.size))
  clear HNW hp3 hb3 BE1 hw
  go_upto_block 0 with fail
  go_cut [7, 9, 10] (fun v7 v9 v10 wx => ∃ (t g : Nat), t ≤ 400 ∧ v7 = .pointer (some ⟨g, 0, none⟩) ∧ Hid (∃ gs fr alive all, Inv w.heap.size n t v9 v10 g gs fr alive all wx) ∧ Hid (Below w.heap.size w wx))
  case first =>
    go_wp2_with fail
    go_loopw [7, 9, 10, 11] (fun v7 v9 v10 v11 wr => ∃ (i g : Nat), i ≤ A.length ∧ i ≤ 400 ∧ v11 = .int .i64 (i : Int) ∧ v7 = .pointer (some ⟨g, 0, none⟩) ∧ Hid (∃ gs fr alive all, Inv w.heap.size n i v9 v10 g gs fr alive all wr) ∧ Hid (Below w.heap.size w wr)) (fun _ _ _ v11 _ => A.length - (intOf v11).toNat)
    case atStart => exact ⟨0, _, Nat.zero_le _, by omega, rfl, rfl, HV, BE3⟩
    case round =>
      clear HV BE3
      obtain ⟨i, g, hi, hi4, rfl, rfl, HV, HB⟩ := hrel
      by_cases hlt : i < A.length ∧ i < 400
      · obtain ⟨hlt, hlt4⟩ := hlt
        have t1 : (i : Int) < (A.length : Int) := by omega
        have t2 : (i : Int) < 400 := by omega
        obtain ⟨_, _, ee, -, -, hcs⟩ := id (HI.out.on HB.out)
        simp only [Value.slice.injEq] at ee
        obtain ⟨rfl, -, rfl⟩ := ee
        obtain ⟨g1, o1, rfl, hc⟩ := hcs i hlt
        have hx := HA.out A[i] (List.getElem_mem hlt)
        generalize A[i] = x at hc hx
        clear hcs
        obtain ⟨gs, fr, alive, all, hv⟩ := HV.out
        obtain ⟨ao9, c9, rfl, h91, h92⟩ := hv.2.1.len
        obtain ⟨ao10, c10, rfl, h101, h102⟩ := hv.2.2.1.len
        have HV1 := hide hv
        clear hv HV
        obtain ⟨w4, rfl⟩ : ∃ x, x = wr := ⟨_, rfl⟩
        go_upto_region 11 with fail
        go_cut [67] (fun v67 wx => (∃ b, v67 = .bool b ∧ (b = true → 0 < alive.length)) ∧ wx = w4)
        case first =>
          by_cases hal : 0 < alive.length
          · have t3 : (alive.length : Int) > 0 := by omega
            go_wp2_with fail
            all_goals
              go_meet
              exact ⟨⟨_, rfl, fun _ => hal⟩, rfl⟩
          · have t3 : ¬ (alive.length : Int) > 0 := by omega
            go_wp2_with fail
            go_meet
            exact ⟨⟨_, rfl, fun e => by cases e⟩, rfl⟩
        obtain ⟨⟨b, rfl, hb⟩, rfl⟩ := hcut
        obtain ⟨w4, rfl⟩ : ∃ x, x = wc := ⟨_, rfl⟩
        go_upto_if 67 with fail
        rename_i K67 hK67
        refine never_if w w4 hc hx t1 hlt4 hn2 ha1 ha2 h91 h92 h101 h102 HV1 HB hb (fun u4 u12 u13 u14 u15 u16 u17 u18 u68 u69 u70 u71 u72 u73 u74 u75 u76 u77 u78 u79 u80 u81 u82 u83 u84 u85 u86 u87 u88 u89 u90 u91 u92 u93 u94 u95 u96 u97 u98 u99 u100 u101 u102 u103 u104 u105 u106 u107 u108 u109 u110 u111 u112 u113 u114 u115 u116 u117 u118 u119 u120 u121 u122 u123 u124 u125 u126 u127 u128 u129 u130 u131 u132 u133 u134 u135 u136 u137 u138 u139 u140 u141 u142 v9 v10 wx hrel => ?_)
        refine hK67 _ _ ?_
        refine never_rest w wx hn1 hn2 hlt4 hrel.1 hrel.2 (fun u4 u19 u20 u21 u22 u23 u24 u25 u26 u27 u28 u143 u144 u145 u146 u147 u148 u149 u150 u151 u152 u153 u154 u155 u156 u157 u158 u159 u160 u161 u162 u163 u164 u165 u166 u167 u168 u169 u170 u171 u172 u173 u174 u175 u176 u177 u178 u179 u180 u181 u182 u183 u184 u185 u186 u187 u188 u189 u190 u191 u192 u193 u194 u195 u196 u197 u198 u199 u200 u201 u202 u203 u204 u205 u206 u207 u208 u209 u210 u211 u212 u213 u214 u215 u216 u217 u218 u219 u220 u221 u222 u223 u224 u225 u226 u227 u228 u229 u230 g' wy hrel2 => ?_)
        go_wp2_with fail
        go_roundw
        case rel => exact ⟨i + 1, g', by omega, by omega, by go_num, rfl, hrel2.1, hrel2.2⟩
        case measure => simp [intOf]; omega
      · skip
        by_cases hl3 : i < A.length
        · have t1 : (i : Int) < (A.length : Int) := by omega
          have t2 : ¬ (i : Int) < 400 := by omega
          go_wp2_with fail
          go_meet
          exact ⟨i, g, by omega, rfl, HV, HB⟩
        · have t1 : ¬ (i : Int) < (A.length : Int) := by omega
          go_wp2_with fail
          go_meet
          exact ⟨i, g, by omega, rfl, HV, HB⟩
  obtain ⟨t, g, ht, rfl, HV2, HB2⟩ := hcut
  obtain ⟨w5, rfl⟩ : ∃ x, x = wc := ⟨_, rfl⟩
  obtain ⟨gs, fr, alive, all, hv⟩ := HV2.out
  obtain ⟨ao9, c9, rfl, h91, h92⟩ := hv.2.1.len
  obtain ⟨ao10, c10, rfl, h101, h102⟩ := hv.2.2.1.len
  have HV1 := hide hv
  clear hv HV2 HV BE3
  go_wp2_with fail
  go_loopw [29] (fun v29 wr => ∃ k : Nat, k ≤ all.length ∧ v29 = .int .i64 (k : Int) ∧ Hid (Below w5.heap.size w5 wr)) (fun v29 _ => all.length - (intOf v29).toNat)
  case atStart => exact ⟨0, Nat.zero_le _, rfl, Below.refl _ _⟩
  case round =>
    obtain ⟨k, hk, rfl, HBL⟩ := hrel
    by_cases hkl : k < all.length
    · have t1 : (k : Int) < (all.length : Int) := by omega
      have hv := HV1.out.later HBL.out
      obtain ⟨gb, c10', ee, -, -⟩ := hv.2.2.1.form (by omega)
      simp only [Value.slice.injEq] at ee
      obtain ⟨rfl, -, rfl⟩ := ee
      have CQ : Hid (∀ W, Below wr.heap.size wr W → W.cell? ⟨gb, k * 2, none⟩ = some (.int .i64 (all[k].1 : Int)) ∧ W.cell? ⟨gb, k * 2 + 1, none⟩ = some (.int .i64 (all[k].2 : Int))) := fun W hW => (hv.2.2.1.later hW).at k hkl
      have HLV : Hid (∀ W, Below wr.heap.size wr W → Calls Try.prog 16 #[.pointer (some ⟨g, 0, none⟩), .agg #[.int .i64 (all[k].1 : Int), .int .i64 (all[k].2 : Int)]] W fun e w' => e = .returned (.bool (decide (all[k] ∈ alive))) ∧ Below W.heap.size W w') := fun W hW => by
        obtain ⟨S, h, -⟩ := hv.1.later hW
        have := lives_any (all[k].1 : Int) (all[k].2 : Int) h
        rw [nv_lives hv.2.2.2.2.2 hv.1.ok] at this
        exact this
      have HE := hide hv.2.1
      generalize all[k] = q at CQ HLV
      obtain ⟨qa, qb⟩ := q
      simp only at CQ HLV
      obtain ⟨w6, rfl⟩ : ∃ x, x = wr := ⟨_, rfl⟩
      clear hv
      go_wp2_with fail
      go_loopw [30, 31] (fun v30 v31 wr => ∃ i : Nat, i ≤ alive.length ∧ v31 = .int .i64 (i : Int) ∧ v30 = .bool (decide ((qa, qb) ∈ alive.take i)) ∧ Hid (Below w6.heap.size w6 wr)) (fun _ v31 _ => alive.length - (intOf v31).toNat)
      case atStart => exact ⟨0, Nat.zero_le _, rfl, by simp, Below.refl _ _⟩
      case round =>
        obtain ⟨i, hi, rfl, rfl, HBM⟩ := hrel
        by_cases hil : i < alive.length
        · have t2 : (i : Int) < (alive.length : Int) := by omega
          have hea := HE.out.later HBM.out
          obtain ⟨ga, c9', ee, -, -⟩ := hea.form (by omega)
          simp only [Value.slice.injEq] at ee
          obtain ⟨rfl, -, rfl⟩ := ee
          obtain ⟨e1, e2⟩ := hea.at i hil
          obtain ⟨e3, e4⟩ := CQ.out wr HBM.out
          have HS := hide (mem_take_succ hil (qa, qb))
          generalize alive[i] = y at e1 e2 HS
          obtain ⟨ya, yb⟩ := y
          simp only at e1 e2 HS
          clear hea
          obtain ⟨b0, hb0⟩ : ∃ b, b = decide ((qa, qb) ∈ alive.take i) := ⟨_, rfl⟩
          rw [← hb0] at HS ⊢
          clear hb0
          cases b0 with
          | true =>
            go_wp2_with fail
            go_quiet (fail)
            go_wp2_with fail
            go_roundw
            case rel => exact ⟨i + 1, by omega, by go_num, by rw [HS.out]; rfl, below_on HBM.out (below_drawn _ _)⟩
            case measure => simp [intOf]; omega
          | false =>
            by_cases hya : ya = qa
            · by_cases hyb : yb = qb
              · subst hya
                subst hyb
                go_wp2_with fail
                go_quiet (fail)
                go_wp2_with fail
                go_roundw
                case rel => exact ⟨i + 1, by omega, by go_num, by rw [HS.out]; simp, below_on HBM.out (below_drawn _ _)⟩
                case measure => simp [intOf]; omega
              · subst hya
                have HS1 : Hid (decide ((ya, qb) ∈ alive.take (i + 1)) = false) := by
                  rw [Hid, HS.out]
                  simp
                  omega
                clear HS
                go_wp2_with fail
                go_quiet (fail)
                go_wp2_with fail
                go_roundw
                case rel => exact ⟨i + 1, by omega, by go_num, by rw [HS1.out], below_on HBM.out (below_drawn _ _)⟩
                case measure => simp [intOf]; omega
            · have HS1 : Hid (decide ((qa, qb) ∈ alive.take (i + 1)) = false) := by
                rw [Hid, HS.out]
                simp
                omega
              clear HS
              go_wp2_with fail
              go_quiet (fail)
              go_wp2_with fail
              go_roundw
              case rel => exact ⟨i + 1, by omega, by go_num, by rw [HS1.out], below_on HBM.out (below_drawn _ _)⟩
              case measure => simp [intOf]; omega
        · obtain rfl : i = alive.length := by omega
          have t2 : ¬ (alive.length : Int) < (alive.length : Int) := by omega
          obtain ⟨e3, e4⟩ := CQ.out wr HBM.out
          have HLW := hide (HLV.out wr HBM.out)
          rw [List.take_length]
          generalize decide ((qa, qb) ∈ alive) = bl at HLW ⊢
          have z1 : (bl == bl) = true := by simp
          have z2 : (bl != bl) = false := by simp
          go_wp2_with fail
          refine HLW.out.mono ?_
          rintro e w7 ⟨rfl, hb7⟩
          have HB7 := hide (below_on (below_on HBL.out HBM.out) hb7)
          clear HLW hb7
          go_wp2_with fail
          go_roundw
          case rel => exact ⟨k + 1, by omega, by go_num, HB7⟩
          case measure => simp [intOf]; omega
    · obtain rfl : k = all.length := by omega
      have t1 : ¬ (all.length : Int) < (all.length : Int) := by omega
      go_wp2_with fail
      go_ret
      exact ⟨rfl, below_on HB2.out HBL.out⟩
end Go.Proofs.Yteieieepnfidaaa
